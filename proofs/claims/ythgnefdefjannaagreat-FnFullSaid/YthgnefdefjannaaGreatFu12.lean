import Derived.Test.YthgnefdefjannaaGreatFu11
namespace Go.Proofs.YthgnefdefjannaaGreat
open Go.RowKit

theorem run_l5text (x y z : Value) (w : World) : Sem.run Tryz.prog (callFunc 13 #[x, y, z]) w = .ok (.enter 13 #[x, y, z]) w := by kernel_rfl
/-- What DrawIngest answers. -/
def DrawnI (w : World) (B O : List (List Int)) (T : List Int) (e : Ending) (w' : World) : Prop := (∃ v tv, e = .returned (.tuple #[v, tv]) ∧ StD w.heap.size w' v B O ∧ SlAt mB 0 0 w'.heap.size w' tv T ∧ CapOk tv) ∧ Below w.heap.size w w'
theorem own_slat {base n : Nat} {w : World} {v : Value} {T : List Int} (h : w.ownsRow base 5 1 v n (T.map mB)) : SlAt mB 0 0 w.heap.size w v T ∧ CapOk v := by
  obtain ⟨b, hb, -⟩ := own_cl h
  exact ⟨hb.at, hb.cap⟩
theorem own_putlo {base n e s B o : Nat} {w : World} {v u : Value} {xs : List Value} (h : w.ownsRow base e s v n xs) (hB : B < base) : (w.setCell ⟨B, o, none⟩ u).ownsRow base e s v n xs := by
  refine ⟨h.1, ?_⟩
  rcases h.2 with q | ⟨g, cap, cur, e1, e2, e3, e4⟩
  · exact Or.inl q
  · exact Or.inr ⟨g, cap, cur, e1, e2, (Below.heap_setCell _ _ _ _ (by show g ≠ B; omega)).trans e3, e4⟩
theorem StD.mvD {lo lo' D : Nat} {w w' : World} {v : Value} {bss oss : List (List Int)} (h : StD lo w v bss oss) (hm : Mv lo' D w w') (hlo : w.heap.size ≤ lo') (hD : D < lo) : StD lo w' v bss oss := by
  obtain ⟨sv, ov, S, qs, e, h1, h2, h3, h4, h5⟩ := h
  have hne : ∀ k, S k → w'.heap[k]? = w.heap[k]? := fun k hk => hm.block k (by have := (h4 k hk).2.lt; omega) (by have := (h4 k hk).1; omega)
  exact ⟨sv, ov, S, qs, e, h1.same hne, h2.keepMv hm hlo hD, h3, fun k hk => ⟨(h4 k hk).1, (h4 k hk).2.same (hne k hk)⟩, h5⟩

set_option maxHeartbeats 8000000 in
set_option maxRecDepth 100000 in
theorem drawIn_996_0 (code : List Int) (hc : Cod code) (B O : List (List Int)) (hk : (code.take 600).headD 0 % 6 = 0) (hj : (code.take 600).tail.tail.tail.headD 0 % 3 = 0) (hnr : ∀ (N D : Nat) (w : World), CdAt N D w (code.take 600).tail → D < w.heap.size → Calls Tryz.prog 11 #[.pointer (some ⟨D, 0, none⟩)] w (NrOut w.heap.size N D w (code.take 600).tail.tail.tail B O 996 700)) (v : Value) (w : World) (hv : SlAt mB 0 0 w.heap.size w v code) (hcap : CapOk v) :
    Calls Tryz.prog 4 #[v] w (DrawnI w B O (txt (mny 3 9) false)) := by
  obtain ⟨xs, hxs⟩ : ∃ xs, code.take 600 = xs := ⟨_, rfl⟩
  have hx : Cod xs := by rw [← hxs]; exact fun x h => hc x (List.mem_of_mem_take h)
  rw [hxs] at hk hj hnr
  have hh := hx.head
  obtain ⟨y, hy⟩ : ∃ y, xs.headD 0 = y := ⟨_, rfl⟩
  rw [hy] at hk hh
  have HX := hide hx
  have HXS := hide hxs
  have HY := hide hy
  have HV := hide hv
  have HCAP := hide hcap
  have hh2 := hx.tail.tail.tail.head
  obtain ⟨z, hz⟩ : ∃ z, xs.tail.tail.tail.headD 0 = z := ⟨_, rfl⟩
  rw [hz] at hj hh2
  have HZ := hide hz
  have HTS := hide hx.tail.tail.tail
  have HNR := hide hnr
  have HLT : Hid (tot (mny 3 9) ≤ 1048576) := by show tot (mny 3 9) ≤ 1048576; rw [mny_tot _ _ (by omega)]; omega
  have HLL9 : Hid ((mny 3 9).length ≤ 1048576) := by show (mny 3 9).length ≤ 1048576; rw [mny_len]; omega
  obtain ⟨LN, hLN⟩ : ∃ LN, mny 3 9 = LN := ⟨_, rfl⟩
  rw [hLN] at HLT HLL9 ⊢
  have HLNE := hide hLN
  clear hz hnr hLN
  obtain ⟨a, cap, rfl, -, -⟩ := hv
  have hb0 := below1 w (.cells #[.slice none 0 0, .slice none 0 0] 25)
  have RR := Row2.new w 25 (.slice none 0 0) (.slice none 0 0)
  have hzV : (w.alloc (.cells #[.slice none 0 0, .slice none 0 0] 25)).heap.size = w.heap.size + 1 := sz_alloc _ _
  clear hx hxs hy hc hcap
  go_enter Tryz.func4, Tryz.ntmps4
  go_wp2_with fail
  generalize w.alloc (.cells #[.slice none 0 0, .slice none 0 0] 25) = V at *
  have hVz : w.heap.size + 1 ≤ V.heap.size := by omega
  clear hzV
  refine (l1open_any _ code V ((unhide HV).below hb0 (Nat.le_refl _)) (unhide HCAP)).mono ?_
  rintro e w1 ⟨rfl, hc1, hz1, hb1⟩
  rw [unhide HXS] at hc1
  have hz1' : V.heap.size + 1 ≤ w1.heap.size := by omega
  have HC1 := hide hc1
  have RR1 := RR.below hb1 (by omega)
  clear hc1 hz1
  go_wp2_with fail
  refine (next_any V.heap.size V.heap.size xs w1 (unhide HC1) (unhide HX)).mono ?_
  rintro e w2 ⟨he, hc2, ho2⟩
  rw [unhide HY] at he
  subst he
  have hM2 : Mv w1.heap.size V.heap.size w1 w2 := ho2.mv _
  have hz2 : w1.heap.size ≤ w2.heap.size := hM2.size
  have RR2 := hide (RR1.mv hM2 (by omega) (by omega))
  have HC2 := hide hc2
  have hB2 : Below w.heap.size w w2 := (hb0.trans (hb1.mono (by omega))).trans ((Mv.below hM2 (by omega)).mono (by omega))
  clear hc2 ho2 hM2 RR1 RR HC1 hb0 hb1
  go_wp2_with fail
  refine (unhide HNR V.heap.size V.heap.size w2 (unhide HC2) (by omega)).mono ?_
  rintro e w3 ⟨⟨v3, rfl, hsd⟩, hc3, hm3⟩
  have hB3 : Below w.heap.size w w3 := hB2.trans ((Mv.below hm3 (by omega)).mono (by omega))
  have hz3 : w2.heap.size ≤ w3.heap.size := hm3.size
  have RR3 := (unhide RR2).mv hm3 (by omega) (by omega)
  have HSD3 := hide hsd
  obtain ⟨a1, c1, a2, c2, rfl⟩ := hsd.rd.val
  have hb4 := below1 w3 (.cells #[.slice a1 B.length c1, .slice a2 O.length c2] 25)
  have RS := Row2.new w3 25 (.slice a1 B.length c1) (.slice a2 O.length c2)
  have hzV4 : (w3.alloc (.cells #[.slice a1 B.length c1, .slice a2 O.length c2] 25)).heap.size = w3.heap.size + 1 := sz_alloc _ _
  have HC4 := hide (hc3.keep hb4 (by omega))
  clear hsd hc3 hm3
  go_wp2_with fail
  generalize w3.alloc (.cells #[.slice a1 B.length c1, .slice a2 O.length c2] 25) = V4 at *
  have hVz4 : w3.heap.size + 1 ≤ V4.heap.size := by omega
  clear hzV4
  refine (next_any V.heap.size V.heap.size xs.tail.tail.tail V4 (unhide HC4) (unhide HTS)).mono ?_
  rintro e w5 ⟨he, hc5, ho5⟩
  rw [unhide HZ] at he
  subst he
  have hM5 : Mv V4.heap.size V.heap.size V4 w5 := ho5.mv _
  have hz5 : V4.heap.size ≤ w5.heap.size := hM5.size
  have HC5 := hide hc5
  have RS5 := hide (RS.mv hM5 (by omega) (by omega))
  have RR5 := hide ((RR3.below hb4 (by omega)).mv hM5 (by omega) (by omega))
  have HSD5 := hide (((unhide HSD3).keep hb4 (Nat.le_refl _)).mvD hM5 (Nat.le_refl _) (by omega))
  have hB5 : Below w.heap.size w w5 := (hB3.trans (hb4.mono (by omega))).trans ((Mv.below hM5 (by omega)).mono (by omega))
  clear hc5 ho5 hM5 RS RR3 HC4 hb4 HSD3
  go_wp2_with fail
  refine (l4many_any 3 9 w5 (by omega) (by omega) (by omega)).mono ?_
  rintro e w6 ⟨⟨lv, rfl, us, hus, hlu⟩, hb6⟩
  rw [unhide HLNE] at hus
  have hz6 := hb6.size
  have HLN : Hid (SsAt mB 0 w6.heap.size w6 lv LN) := by
    have := (LB.footR hlu).all (Nat.le_refl _)
    rw [hus] at this
    exact this
  have RS6 := hide ((unhide RS5).below hb6 (by omega))
  have RR6 := hide ((unhide RR5).below hb6 (by omega))
  have HSD6 := hide ((unhide HSD5).keep hb6 (Nat.le_refl _))
  have hB6 : Below w.heap.size w w6 := hB5.trans (hb6.mono (by omega))
  obtain ⟨la, lc, rfl⟩ := own_is hlu.own
  clear hlu hus hb6
  obtain ⟨m0, m1, m2, m3⟩ := (unhide RS6).facts4
  have hS : Hid (∀ W' : World, Below w6.heap.size w6 W' → Row2 W' w3.heap.size 25 (.slice a1 B.length c1) (.slice a2 O.length c2)) := fun W' hW => (unhide RS6).below hW (by omega)
  go_wp2_with fail
  go_region_law (refine step_call_o 13 #[.tmp 42, .const (.int .u8 10), .tmp 44] _ rfl #[.slice la us.length lc, .int .u8 10, .bool false] rfl (by first | (simp [Act.eval]; done) | (simp [Act.eval, Act.put]; done) | (simp [Act.eval, htm]; done) | (simp [Act.eval, Act.put, htm]; done)) (run_l5text _ _ _) (l5text_any _ LN false _ (by exact unhide HLN) (by have := unhide HLT; omega) (by have := unhide HLL9; omega)) ?_; rintro e w7 ⟨⟨tv, rfl, hown⟩, hb7⟩; have hB7 : Below w6.heap.size w6 w7 := ⟨hb7.os, hb7.tape, hb7.output, hb7.size, hb7.block⟩; have hz7 := hB7.size; have HOW : Hid (w7.ownsRow w6.heap.size 5 1 tv (txt LN false).length ((txt LN false).map mB)) := hown; have RS7 := hide (unhide hS _ hB7); have RR7 := hide ((unhide RR6).below hB7 (by omega)); obtain ⟨ta, tc, rfl⟩ := own_is hown; obtain ⟨k0, k1, k2, k3⟩ := (unhide RS7).facts4; obtain ⟨n0, n1, n2, n3⟩ := (unhide RR7).facts4; clear hown hb7; refine ⟨_, rfl, ?_⟩)
  all_goals
    obtain ⟨TT, hTT⟩ : ∃ TT, txt LN false = TT := ⟨_, rfl⟩
    rw [hTT] at HOW ⊢
    have HTT := hide hTT
    clear hTT
    go_wp2_with fail
    obtain ⟨e0, e1, -⟩ := (((unhide RR7).put0 (u := .slice a1 B.length c1)).put1 (u := .slice a2 O.length c2)).facts4
    have hfin := own_slat (own_putlo (own_putlo (unhide HOW) (B := w.heap.size) (o := 0) (u := .slice a1 B.length c1) (by omega)) (B := w.heap.size) (o := 1) (u := .slice a2 O.length c2) (by omega))
    refine bodyPost_ret (v := .tuple #[.agg #[.slice a1 B.length c1, .slice a2 O.length c2], .slice ta TT.length tc]) (by simp [results, Tryz.results4, go_sem, e0, e1]) rfl ⟨⟨_, _, rfl, ?_, by rw [unhide HTT]; exact hfin.1, hfin.2⟩, bput2 (hB6.trans (hB7.mono (by omega))) (Nat.le_refl _) _ _⟩
    exact ((((unhide HSD6).keep hB7 (Nat.le_refl _)).put (by omega)).put (by omega)).low (by omega)

set_option maxHeartbeats 8000000 in
set_option maxRecDepth 100000 in
theorem drawIn_996_1 (code : List Int) (hc : Cod code) (B O : List (List Int)) (hk : (code.take 600).headD 0 % 6 = 0) (hj : (code.take 600).tail.tail.tail.headD 0 % 3 = 1) (hnr : ∀ (N D : Nat) (w : World), CdAt N D w (code.take 600).tail → D < w.heap.size → Calls Tryz.prog 11 #[.pointer (some ⟨D, 0, none⟩)] w (NrOut w.heap.size N D w (code.take 600).tail.tail.tail B O 996 700)) (v : Value) (w : World) (hv : SlAt mB 0 0 w.heap.size w v code) (hcap : CapOk v) :
    Calls Tryz.prog 4 #[v] w (DrawnI w B O (txt (mny 4 9) true)) := by
  obtain ⟨xs, hxs⟩ : ∃ xs, code.take 600 = xs := ⟨_, rfl⟩
  have hx : Cod xs := by rw [← hxs]; exact fun x h => hc x (List.mem_of_mem_take h)
  rw [hxs] at hk hj hnr
  have hh := hx.head
  obtain ⟨y, hy⟩ : ∃ y, xs.headD 0 = y := ⟨_, rfl⟩
  rw [hy] at hk hh
  have HX := hide hx
  have HXS := hide hxs
  have HY := hide hy
  have HV := hide hv
  have HCAP := hide hcap
  have hh2 := hx.tail.tail.tail.head
  obtain ⟨z, hz⟩ : ∃ z, xs.tail.tail.tail.headD 0 = z := ⟨_, rfl⟩
  rw [hz] at hj hh2
  have HZ := hide hz
  have HTS := hide hx.tail.tail.tail
  have HNR := hide hnr
  have HLT : Hid (tot (mny 4 9) ≤ 1048576) := by show tot (mny 4 9) ≤ 1048576; rw [mny_tot _ _ (by omega)]; omega
  have HLL9 : Hid ((mny 4 9).length ≤ 1048576) := by show (mny 4 9).length ≤ 1048576; rw [mny_len]; omega
  obtain ⟨LN, hLN⟩ : ∃ LN, mny 4 9 = LN := ⟨_, rfl⟩
  rw [hLN] at HLT HLL9 ⊢
  have HLNE := hide hLN
  clear hz hnr hLN
  obtain ⟨a, cap, rfl, -, -⟩ := hv
  have hb0 := below1 w (.cells #[.slice none 0 0, .slice none 0 0] 25)
  have RR := Row2.new w 25 (.slice none 0 0) (.slice none 0 0)
  have hzV : (w.alloc (.cells #[.slice none 0 0, .slice none 0 0] 25)).heap.size = w.heap.size + 1 := sz_alloc _ _
  clear hx hxs hy hc hcap
  go_enter Tryz.func4, Tryz.ntmps4
  go_wp2_with fail
  generalize w.alloc (.cells #[.slice none 0 0, .slice none 0 0] 25) = V at *
  have hVz : w.heap.size + 1 ≤ V.heap.size := by omega
  clear hzV
  refine (l1open_any _ code V ((unhide HV).below hb0 (Nat.le_refl _)) (unhide HCAP)).mono ?_
  rintro e w1 ⟨rfl, hc1, hz1, hb1⟩
  rw [unhide HXS] at hc1
  have hz1' : V.heap.size + 1 ≤ w1.heap.size := by omega
  have HC1 := hide hc1
  have RR1 := RR.below hb1 (by omega)
  clear hc1 hz1
  go_wp2_with fail
  refine (next_any V.heap.size V.heap.size xs w1 (unhide HC1) (unhide HX)).mono ?_
  rintro e w2 ⟨he, hc2, ho2⟩
  rw [unhide HY] at he
  subst he
  have hM2 : Mv w1.heap.size V.heap.size w1 w2 := ho2.mv _
  have hz2 : w1.heap.size ≤ w2.heap.size := hM2.size
  have RR2 := hide (RR1.mv hM2 (by omega) (by omega))
  have HC2 := hide hc2
  have hB2 : Below w.heap.size w w2 := (hb0.trans (hb1.mono (by omega))).trans ((Mv.below hM2 (by omega)).mono (by omega))
  clear hc2 ho2 hM2 RR1 RR HC1 hb0 hb1
  go_wp2_with fail
  refine (unhide HNR V.heap.size V.heap.size w2 (unhide HC2) (by omega)).mono ?_
  rintro e w3 ⟨⟨v3, rfl, hsd⟩, hc3, hm3⟩
  have hB3 : Below w.heap.size w w3 := hB2.trans ((Mv.below hm3 (by omega)).mono (by omega))
  have hz3 : w2.heap.size ≤ w3.heap.size := hm3.size
  have RR3 := (unhide RR2).mv hm3 (by omega) (by omega)
  have HSD3 := hide hsd
  obtain ⟨a1, c1, a2, c2, rfl⟩ := hsd.rd.val
  have hb4 := below1 w3 (.cells #[.slice a1 B.length c1, .slice a2 O.length c2] 25)
  have RS := Row2.new w3 25 (.slice a1 B.length c1) (.slice a2 O.length c2)
  have hzV4 : (w3.alloc (.cells #[.slice a1 B.length c1, .slice a2 O.length c2] 25)).heap.size = w3.heap.size + 1 := sz_alloc _ _
  have HC4 := hide (hc3.keep hb4 (by omega))
  clear hsd hc3 hm3
  go_wp2_with fail
  generalize w3.alloc (.cells #[.slice a1 B.length c1, .slice a2 O.length c2] 25) = V4 at *
  have hVz4 : w3.heap.size + 1 ≤ V4.heap.size := by omega
  clear hzV4
  refine (next_any V.heap.size V.heap.size xs.tail.tail.tail V4 (unhide HC4) (unhide HTS)).mono ?_
  rintro e w5 ⟨he, hc5, ho5⟩
  rw [unhide HZ] at he
  subst he
  have hM5 : Mv V4.heap.size V.heap.size V4 w5 := ho5.mv _
  have hz5 : V4.heap.size ≤ w5.heap.size := hM5.size
  have HC5 := hide hc5
  have RS5 := hide (RS.mv hM5 (by omega) (by omega))
  have RR5 := hide ((RR3.below hb4 (by omega)).mv hM5 (by omega) (by omega))
  have HSD5 := hide (((unhide HSD3).keep hb4 (Nat.le_refl _)).mvD hM5 (Nat.le_refl _) (by omega))
  have hB5 : Below w.heap.size w w5 := (hB3.trans (hb4.mono (by omega))).trans ((Mv.below hM5 (by omega)).mono (by omega))
  clear hc5 ho5 hM5 RS RR3 HC4 hb4 HSD3
  go_wp2_with fail
  refine (l4many_any 4 9 w5 (by omega) (by omega) (by omega)).mono ?_
  rintro e w6 ⟨⟨lv, rfl, us, hus, hlu⟩, hb6⟩
  rw [unhide HLNE] at hus
  have hz6 := hb6.size
  have HLN : Hid (SsAt mB 0 w6.heap.size w6 lv LN) := by
    have := (LB.footR hlu).all (Nat.le_refl _)
    rw [hus] at this
    exact this
  have RS6 := hide ((unhide RS5).below hb6 (by omega))
  have RR6 := hide ((unhide RR5).below hb6 (by omega))
  have HSD6 := hide ((unhide HSD5).keep hb6 (Nat.le_refl _))
  have hB6 : Below w.heap.size w w6 := hB5.trans (hb6.mono (by omega))
  obtain ⟨la, lc, rfl⟩ := own_is hlu.own
  clear hlu hus hb6
  obtain ⟨m0, m1, m2, m3⟩ := (unhide RS6).facts4
  have hS : Hid (∀ W' : World, Below w6.heap.size w6 W' → Row2 W' w3.heap.size 25 (.slice a1 B.length c1) (.slice a2 O.length c2)) := fun W' hW => (unhide RS6).below hW (by omega)
  go_wp2_with fail
  go_region_law (refine step_call_o 13 #[.tmp 42, .const (.int .u8 10), .tmp 44] _ rfl #[.slice la us.length lc, .int .u8 10, .bool true] rfl (by first | (simp [Act.eval]; done) | (simp [Act.eval, Act.put]; done) | (simp [Act.eval, htm]; done) | (simp [Act.eval, Act.put, htm]; done)) (run_l5text _ _ _) (l5text_any _ LN true _ (by exact unhide HLN) (by have := unhide HLT; omega) (by have := unhide HLL9; omega)) ?_; rintro e w7 ⟨⟨tv, rfl, hown⟩, hb7⟩; have hB7 : Below w6.heap.size w6 w7 := ⟨hb7.os, hb7.tape, hb7.output, hb7.size, hb7.block⟩; have hz7 := hB7.size; have HOW : Hid (w7.ownsRow w6.heap.size 5 1 tv (txt LN true).length ((txt LN true).map mB)) := hown; have RS7 := hide (unhide hS _ hB7); have RR7 := hide ((unhide RR6).below hB7 (by omega)); obtain ⟨ta, tc, rfl⟩ := own_is hown; obtain ⟨k0, k1, k2, k3⟩ := (unhide RS7).facts4; obtain ⟨n0, n1, n2, n3⟩ := (unhide RR7).facts4; clear hown hb7; refine ⟨_, rfl, ?_⟩)
  all_goals
    obtain ⟨TT, hTT⟩ : ∃ TT, txt LN true = TT := ⟨_, rfl⟩
    rw [hTT] at HOW ⊢
    have HTT := hide hTT
    clear hTT
    go_wp2_with fail
    obtain ⟨e0, e1, -⟩ := (((unhide RR7).put0 (u := .slice a1 B.length c1)).put1 (u := .slice a2 O.length c2)).facts4
    have hfin := own_slat (own_putlo (own_putlo (unhide HOW) (B := w.heap.size) (o := 0) (u := .slice a1 B.length c1) (by omega)) (B := w.heap.size) (o := 1) (u := .slice a2 O.length c2) (by omega))
    refine bodyPost_ret (v := .tuple #[.agg #[.slice a1 B.length c1, .slice a2 O.length c2], .slice ta TT.length tc]) (by simp [results, Tryz.results4, go_sem, e0, e1]) rfl ⟨⟨_, _, rfl, ?_, by rw [unhide HTT]; exact hfin.1, hfin.2⟩, bput2 (hB6.trans (hB7.mono (by omega))) (Nat.le_refl _) _ _⟩
    exact ((((unhide HSD6).keep hB7 (Nat.le_refl _)).put (by omega)).put (by omega)).low (by omega)

set_option maxHeartbeats 8000000 in
set_option maxRecDepth 100000 in
theorem drawIn_996_2 (code : List Int) (hc : Cod code) (B O : List (List Int)) (hk : (code.take 600).headD 0 % 6 = 0) (hj : (code.take 600).tail.tail.tail.headD 0 % 3 = 2) (hnr : ∀ (N D : Nat) (w : World), CdAt N D w (code.take 600).tail → D < w.heap.size → Calls Tryz.prog 11 #[.pointer (some ⟨D, 0, none⟩)] w (NrOut w.heap.size N D w (code.take 600).tail.tail.tail B O 996 700)) (v : Value) (w : World) (hv : SlAt mB 0 0 w.heap.size w v code) (hcap : CapOk v) :
    Calls Tryz.prog 4 #[v] w (DrawnI w B O (txt (mny 5 9) false)) := by
  obtain ⟨xs, hxs⟩ : ∃ xs, code.take 600 = xs := ⟨_, rfl⟩
  have hx : Cod xs := by rw [← hxs]; exact fun x h => hc x (List.mem_of_mem_take h)
  rw [hxs] at hk hj hnr
  have hh := hx.head
  obtain ⟨y, hy⟩ : ∃ y, xs.headD 0 = y := ⟨_, rfl⟩
  rw [hy] at hk hh
  have HX := hide hx
  have HXS := hide hxs
  have HY := hide hy
  have HV := hide hv
  have HCAP := hide hcap
  have hh2 := hx.tail.tail.tail.head
  obtain ⟨z, hz⟩ : ∃ z, xs.tail.tail.tail.headD 0 = z := ⟨_, rfl⟩
  rw [hz] at hj hh2
  have HZ := hide hz
  have HTS := hide hx.tail.tail.tail
  have HNR := hide hnr
  have HLT : Hid (tot (mny 5 9) ≤ 1048576) := by show tot (mny 5 9) ≤ 1048576; rw [mny_tot _ _ (by omega)]; omega
  have HLL9 : Hid ((mny 5 9).length ≤ 1048576) := by show (mny 5 9).length ≤ 1048576; rw [mny_len]; omega
  obtain ⟨LN, hLN⟩ : ∃ LN, mny 5 9 = LN := ⟨_, rfl⟩
  rw [hLN] at HLT HLL9 ⊢
  have HLNE := hide hLN
  clear hz hnr hLN
  obtain ⟨a, cap, rfl, -, -⟩ := hv
  have hb0 := below1 w (.cells #[.slice none 0 0, .slice none 0 0] 25)
  have RR := Row2.new w 25 (.slice none 0 0) (.slice none 0 0)
  have hzV : (w.alloc (.cells #[.slice none 0 0, .slice none 0 0] 25)).heap.size = w.heap.size + 1 := sz_alloc _ _
  clear hx hxs hy hc hcap
  go_enter Tryz.func4, Tryz.ntmps4
  go_wp2_with fail
  generalize w.alloc (.cells #[.slice none 0 0, .slice none 0 0] 25) = V at *
  have hVz : w.heap.size + 1 ≤ V.heap.size := by omega
  clear hzV
  refine (l1open_any _ code V ((unhide HV).below hb0 (Nat.le_refl _)) (unhide HCAP)).mono ?_
  rintro e w1 ⟨rfl, hc1, hz1, hb1⟩
  rw [unhide HXS] at hc1
  have hz1' : V.heap.size + 1 ≤ w1.heap.size := by omega
  have HC1 := hide hc1
  have RR1 := RR.below hb1 (by omega)
  clear hc1 hz1
  go_wp2_with fail
  refine (next_any V.heap.size V.heap.size xs w1 (unhide HC1) (unhide HX)).mono ?_
  rintro e w2 ⟨he, hc2, ho2⟩
  rw [unhide HY] at he
  subst he
  have hM2 : Mv w1.heap.size V.heap.size w1 w2 := ho2.mv _
  have hz2 : w1.heap.size ≤ w2.heap.size := hM2.size
  have RR2 := hide (RR1.mv hM2 (by omega) (by omega))
  have HC2 := hide hc2
  have hB2 : Below w.heap.size w w2 := (hb0.trans (hb1.mono (by omega))).trans ((Mv.below hM2 (by omega)).mono (by omega))
  clear hc2 ho2 hM2 RR1 RR HC1 hb0 hb1
  go_wp2_with fail
  refine (unhide HNR V.heap.size V.heap.size w2 (unhide HC2) (by omega)).mono ?_
  rintro e w3 ⟨⟨v3, rfl, hsd⟩, hc3, hm3⟩
  have hB3 : Below w.heap.size w w3 := hB2.trans ((Mv.below hm3 (by omega)).mono (by omega))
  have hz3 : w2.heap.size ≤ w3.heap.size := hm3.size
  have RR3 := (unhide RR2).mv hm3 (by omega) (by omega)
  have HSD3 := hide hsd
  obtain ⟨a1, c1, a2, c2, rfl⟩ := hsd.rd.val
  have hb4 := below1 w3 (.cells #[.slice a1 B.length c1, .slice a2 O.length c2] 25)
  have RS := Row2.new w3 25 (.slice a1 B.length c1) (.slice a2 O.length c2)
  have hzV4 : (w3.alloc (.cells #[.slice a1 B.length c1, .slice a2 O.length c2] 25)).heap.size = w3.heap.size + 1 := sz_alloc _ _
  have HC4 := hide (hc3.keep hb4 (by omega))
  clear hsd hc3 hm3
  go_wp2_with fail
  generalize w3.alloc (.cells #[.slice a1 B.length c1, .slice a2 O.length c2] 25) = V4 at *
  have hVz4 : w3.heap.size + 1 ≤ V4.heap.size := by omega
  clear hzV4
  refine (next_any V.heap.size V.heap.size xs.tail.tail.tail V4 (unhide HC4) (unhide HTS)).mono ?_
  rintro e w5 ⟨he, hc5, ho5⟩
  rw [unhide HZ] at he
  subst he
  have hM5 : Mv V4.heap.size V.heap.size V4 w5 := ho5.mv _
  have hz5 : V4.heap.size ≤ w5.heap.size := hM5.size
  have HC5 := hide hc5
  have RS5 := hide (RS.mv hM5 (by omega) (by omega))
  have RR5 := hide ((RR3.below hb4 (by omega)).mv hM5 (by omega) (by omega))
  have HSD5 := hide (((unhide HSD3).keep hb4 (Nat.le_refl _)).mvD hM5 (Nat.le_refl _) (by omega))
  have hB5 : Below w.heap.size w w5 := (hB3.trans (hb4.mono (by omega))).trans ((Mv.below hM5 (by omega)).mono (by omega))
  clear hc5 ho5 hM5 RS RR3 HC4 hb4 HSD3
  go_wp2_with fail
  refine (l4many_any 5 9 w5 (by omega) (by omega) (by omega)).mono ?_
  rintro e w6 ⟨⟨lv, rfl, us, hus, hlu⟩, hb6⟩
  rw [unhide HLNE] at hus
  have hz6 := hb6.size
  have HLN : Hid (SsAt mB 0 w6.heap.size w6 lv LN) := by
    have := (LB.footR hlu).all (Nat.le_refl _)
    rw [hus] at this
    exact this
  have RS6 := hide ((unhide RS5).below hb6 (by omega))
  have RR6 := hide ((unhide RR5).below hb6 (by omega))
  have HSD6 := hide ((unhide HSD5).keep hb6 (Nat.le_refl _))
  have hB6 : Below w.heap.size w w6 := hB5.trans (hb6.mono (by omega))
  obtain ⟨la, lc, rfl⟩ := own_is hlu.own
  clear hlu hus hb6
  obtain ⟨m0, m1, m2, m3⟩ := (unhide RS6).facts4
  have hS : Hid (∀ W' : World, Below w6.heap.size w6 W' → Row2 W' w3.heap.size 25 (.slice a1 B.length c1) (.slice a2 O.length c2)) := fun W' hW => (unhide RS6).below hW (by omega)
  go_wp2_with fail
  go_region_law (refine step_call_o 13 #[.tmp 42, .const (.int .u8 10), .tmp 44] _ rfl #[.slice la us.length lc, .int .u8 10, .bool false] rfl (by first | (simp [Act.eval]; done) | (simp [Act.eval, Act.put]; done) | (simp [Act.eval, htm]; done) | (simp [Act.eval, Act.put, htm]; done)) (run_l5text _ _ _) (l5text_any _ LN false _ (by exact unhide HLN) (by have := unhide HLT; omega) (by have := unhide HLL9; omega)) ?_; rintro e w7 ⟨⟨tv, rfl, hown⟩, hb7⟩; have hB7 : Below w6.heap.size w6 w7 := ⟨hb7.os, hb7.tape, hb7.output, hb7.size, hb7.block⟩; have hz7 := hB7.size; have HOW : Hid (w7.ownsRow w6.heap.size 5 1 tv (txt LN false).length ((txt LN false).map mB)) := hown; have RS7 := hide (unhide hS _ hB7); have RR7 := hide ((unhide RR6).below hB7 (by omega)); obtain ⟨ta, tc, rfl⟩ := own_is hown; obtain ⟨k0, k1, k2, k3⟩ := (unhide RS7).facts4; obtain ⟨n0, n1, n2, n3⟩ := (unhide RR7).facts4; clear hown hb7; refine ⟨_, rfl, ?_⟩)
  all_goals
    obtain ⟨TT, hTT⟩ : ∃ TT, txt LN false = TT := ⟨_, rfl⟩
    rw [hTT] at HOW ⊢
    have HTT := hide hTT
    clear hTT
    go_wp2_with fail
    obtain ⟨e0, e1, -⟩ := (((unhide RR7).put0 (u := .slice a1 B.length c1)).put1 (u := .slice a2 O.length c2)).facts4
    have hfin := own_slat (own_putlo (own_putlo (unhide HOW) (B := w.heap.size) (o := 0) (u := .slice a1 B.length c1) (by omega)) (B := w.heap.size) (o := 1) (u := .slice a2 O.length c2) (by omega))
    refine bodyPost_ret (v := .tuple #[.agg #[.slice a1 B.length c1, .slice a2 O.length c2], .slice ta TT.length tc]) (by simp [results, Tryz.results4, go_sem, e0, e1]) rfl ⟨⟨_, _, rfl, ?_, by rw [unhide HTT]; exact hfin.1, hfin.2⟩, bput2 (hB6.trans (hB7.mono (by omega))) (Nat.le_refl _) _ _⟩
    exact ((((unhide HSD6).keep hB7 (Nat.le_refl _)).put (by omega)).put (by omega)).low (by omega)

set_option maxHeartbeats 8000000 in
set_option maxRecDepth 100000 in
theorem drawIn_30_0 (code : List Int) (hc : Cod code) (B O : List (List Int)) (hk : (code.take 600).headD 0 % 6 = 0) (hj : (code.take 600).tail.tail.tail.headD 0 % 3 = 0) (hnr : ∀ (N D : Nat) (w : World), CdAt N D w (code.take 600).tail → D < w.heap.size → Calls Tryz.prog 11 #[.pointer (some ⟨D, 0, none⟩)] w (NrOut w.heap.size N D w (code.take 600).tail.tail.tail B O 30 19960)) (v : Value) (w : World) (hv : SlAt mB 0 0 w.heap.size w v code) (hcap : CapOk v) :
    Calls Tryz.prog 4 #[v] w (DrawnI w B O (txt (mny 2 39) false)) := by
  obtain ⟨xs, hxs⟩ : ∃ xs, code.take 600 = xs := ⟨_, rfl⟩
  have hx : Cod xs := by rw [← hxs]; exact fun x h => hc x (List.mem_of_mem_take h)
  rw [hxs] at hk hj hnr
  have hh := hx.head
  obtain ⟨y, hy⟩ : ∃ y, xs.headD 0 = y := ⟨_, rfl⟩
  rw [hy] at hk hh
  have HX := hide hx
  have HXS := hide hxs
  have HY := hide hy
  have HV := hide hv
  have HCAP := hide hcap
  have hh2 := hx.tail.tail.tail.head
  obtain ⟨z, hz⟩ : ∃ z, xs.tail.tail.tail.headD 0 = z := ⟨_, rfl⟩
  rw [hz] at hj hh2
  have HZ := hide hz
  have HTS := hide hx.tail.tail.tail
  have HNR := hide hnr
  have HLT : Hid (tot (mny 2 39) ≤ 1048576) := by show tot (mny 2 39) ≤ 1048576; rw [mny_tot _ _ (by omega)]; omega
  have HLL9 : Hid ((mny 2 39).length ≤ 1048576) := by show (mny 2 39).length ≤ 1048576; rw [mny_len]; omega
  obtain ⟨LN, hLN⟩ : ∃ LN, mny 2 39 = LN := ⟨_, rfl⟩
  rw [hLN] at HLT HLL9 ⊢
  have HLNE := hide hLN
  clear hz hnr hLN
  obtain ⟨a, cap, rfl, -, -⟩ := hv
  have hb0 := below1 w (.cells #[.slice none 0 0, .slice none 0 0] 25)
  have RR := Row2.new w 25 (.slice none 0 0) (.slice none 0 0)
  have hzV : (w.alloc (.cells #[.slice none 0 0, .slice none 0 0] 25)).heap.size = w.heap.size + 1 := sz_alloc _ _
  clear hx hxs hy hc hcap
  go_enter Tryz.func4, Tryz.ntmps4
  go_wp2_with fail
  generalize w.alloc (.cells #[.slice none 0 0, .slice none 0 0] 25) = V at *
  have hVz : w.heap.size + 1 ≤ V.heap.size := by omega
  clear hzV
  refine (l1open_any _ code V ((unhide HV).below hb0 (Nat.le_refl _)) (unhide HCAP)).mono ?_
  rintro e w1 ⟨rfl, hc1, hz1, hb1⟩
  rw [unhide HXS] at hc1
  have hz1' : V.heap.size + 1 ≤ w1.heap.size := by omega
  have HC1 := hide hc1
  have RR1 := RR.below hb1 (by omega)
  clear hc1 hz1
  go_wp2_with fail
  refine (next_any V.heap.size V.heap.size xs w1 (unhide HC1) (unhide HX)).mono ?_
  rintro e w2 ⟨he, hc2, ho2⟩
  rw [unhide HY] at he
  subst he
  have hM2 : Mv w1.heap.size V.heap.size w1 w2 := ho2.mv _
  have hz2 : w1.heap.size ≤ w2.heap.size := hM2.size
  have RR2 := hide (RR1.mv hM2 (by omega) (by omega))
  have HC2 := hide hc2
  have hB2 : Below w.heap.size w w2 := (hb0.trans (hb1.mono (by omega))).trans ((Mv.below hM2 (by omega)).mono (by omega))
  clear hc2 ho2 hM2 RR1 RR HC1 hb0 hb1
  go_wp2_with fail
  refine (unhide HNR V.heap.size V.heap.size w2 (unhide HC2) (by omega)).mono ?_
  rintro e w3 ⟨⟨v3, rfl, hsd⟩, hc3, hm3⟩
  have hB3 : Below w.heap.size w w3 := hB2.trans ((Mv.below hm3 (by omega)).mono (by omega))
  have hz3 : w2.heap.size ≤ w3.heap.size := hm3.size
  have RR3 := (unhide RR2).mv hm3 (by omega) (by omega)
  have HSD3 := hide hsd
  obtain ⟨a1, c1, a2, c2, rfl⟩ := hsd.rd.val
  have hb4 := below1 w3 (.cells #[.slice a1 B.length c1, .slice a2 O.length c2] 25)
  have RS := Row2.new w3 25 (.slice a1 B.length c1) (.slice a2 O.length c2)
  have hzV4 : (w3.alloc (.cells #[.slice a1 B.length c1, .slice a2 O.length c2] 25)).heap.size = w3.heap.size + 1 := sz_alloc _ _
  have HC4 := hide (hc3.keep hb4 (by omega))
  clear hsd hc3 hm3
  go_wp2_with fail
  generalize w3.alloc (.cells #[.slice a1 B.length c1, .slice a2 O.length c2] 25) = V4 at *
  have hVz4 : w3.heap.size + 1 ≤ V4.heap.size := by omega
  clear hzV4
  refine (next_any V.heap.size V.heap.size xs.tail.tail.tail V4 (unhide HC4) (unhide HTS)).mono ?_
  rintro e w5 ⟨he, hc5, ho5⟩
  rw [unhide HZ] at he
  subst he
  have hM5 : Mv V4.heap.size V.heap.size V4 w5 := ho5.mv _
  have hz5 : V4.heap.size ≤ w5.heap.size := hM5.size
  have HC5 := hide hc5
  have RS5 := hide (RS.mv hM5 (by omega) (by omega))
  have RR5 := hide ((RR3.below hb4 (by omega)).mv hM5 (by omega) (by omega))
  have HSD5 := hide (((unhide HSD3).keep hb4 (Nat.le_refl _)).mvD hM5 (Nat.le_refl _) (by omega))
  have hB5 : Below w.heap.size w w5 := (hB3.trans (hb4.mono (by omega))).trans ((Mv.below hM5 (by omega)).mono (by omega))
  clear hc5 ho5 hM5 RS RR3 HC4 hb4 HSD3
  go_wp2_with fail
  refine (l4many_any 2 39 w5 (by omega) (by omega) (by omega)).mono ?_
  rintro e w6 ⟨⟨lv, rfl, us, hus, hlu⟩, hb6⟩
  rw [unhide HLNE] at hus
  have hz6 := hb6.size
  have HLN : Hid (SsAt mB 0 w6.heap.size w6 lv LN) := by
    have := (LB.footR hlu).all (Nat.le_refl _)
    rw [hus] at this
    exact this
  have RS6 := hide ((unhide RS5).below hb6 (by omega))
  have RR6 := hide ((unhide RR5).below hb6 (by omega))
  have HSD6 := hide ((unhide HSD5).keep hb6 (Nat.le_refl _))
  have hB6 : Below w.heap.size w w6 := hB5.trans (hb6.mono (by omega))
  obtain ⟨la, lc, rfl⟩ := own_is hlu.own
  clear hlu hus hb6
  obtain ⟨m0, m1, m2, m3⟩ := (unhide RS6).facts4
  have hS : Hid (∀ W' : World, Below w6.heap.size w6 W' → Row2 W' w3.heap.size 25 (.slice a1 B.length c1) (.slice a2 O.length c2)) := fun W' hW => (unhide RS6).below hW (by omega)
  go_wp2_with fail
  go_region_law (refine step_call_o 13 #[.tmp 42, .const (.int .u8 10), .tmp 44] _ rfl #[.slice la us.length lc, .int .u8 10, .bool false] rfl (by first | (simp [Act.eval]; done) | (simp [Act.eval, Act.put]; done) | (simp [Act.eval, htm]; done) | (simp [Act.eval, Act.put, htm]; done)) (run_l5text _ _ _) (l5text_any _ LN false _ (by exact unhide HLN) (by have := unhide HLT; omega) (by have := unhide HLL9; omega)) ?_; rintro e w7 ⟨⟨tv, rfl, hown⟩, hb7⟩; have hB7 : Below w6.heap.size w6 w7 := ⟨hb7.os, hb7.tape, hb7.output, hb7.size, hb7.block⟩; have hz7 := hB7.size; have HOW : Hid (w7.ownsRow w6.heap.size 5 1 tv (txt LN false).length ((txt LN false).map mB)) := hown; have RS7 := hide (unhide hS _ hB7); have RR7 := hide ((unhide RR6).below hB7 (by omega)); obtain ⟨ta, tc, rfl⟩ := own_is hown; obtain ⟨k0, k1, k2, k3⟩ := (unhide RS7).facts4; obtain ⟨n0, n1, n2, n3⟩ := (unhide RR7).facts4; clear hown hb7; refine ⟨_, rfl, ?_⟩)
  all_goals
    obtain ⟨TT, hTT⟩ : ∃ TT, txt LN false = TT := ⟨_, rfl⟩
    rw [hTT] at HOW ⊢
    have HTT := hide hTT
    clear hTT
    go_wp2_with fail
    obtain ⟨e0, e1, -⟩ := (((unhide RR7).put0 (u := .slice a1 B.length c1)).put1 (u := .slice a2 O.length c2)).facts4
    have hfin := own_slat (own_putlo (own_putlo (unhide HOW) (B := w.heap.size) (o := 0) (u := .slice a1 B.length c1) (by omega)) (B := w.heap.size) (o := 1) (u := .slice a2 O.length c2) (by omega))
    refine bodyPost_ret (v := .tuple #[.agg #[.slice a1 B.length c1, .slice a2 O.length c2], .slice ta TT.length tc]) (by simp [results, Tryz.results4, go_sem, e0, e1]) rfl ⟨⟨_, _, rfl, ?_, by rw [unhide HTT]; exact hfin.1, hfin.2⟩, bput2 (hB6.trans (hB7.mono (by omega))) (Nat.le_refl _) _ _⟩
    exact ((((unhide HSD6).keep hB7 (Nat.le_refl _)).put (by omega)).put (by omega)).low (by omega)

set_option maxHeartbeats 8000000 in
set_option maxRecDepth 100000 in
theorem drawIn_30_1 (code : List Int) (hc : Cod code) (B O : List (List Int)) (hk : (code.take 600).headD 0 % 6 = 0) (hj : (code.take 600).tail.tail.tail.headD 0 % 3 = 1) (hnr : ∀ (N D : Nat) (w : World), CdAt N D w (code.take 600).tail → D < w.heap.size → Calls Tryz.prog 11 #[.pointer (some ⟨D, 0, none⟩)] w (NrOut w.heap.size N D w (code.take 600).tail.tail.tail B O 30 19960)) (v : Value) (w : World) (hv : SlAt mB 0 0 w.heap.size w v code) (hcap : CapOk v) :
    Calls Tryz.prog 4 #[v] w (DrawnI w B O (txt (mny 2 40) true)) := by
  obtain ⟨xs, hxs⟩ : ∃ xs, code.take 600 = xs := ⟨_, rfl⟩
  have hx : Cod xs := by rw [← hxs]; exact fun x h => hc x (List.mem_of_mem_take h)
  rw [hxs] at hk hj hnr
  have hh := hx.head
  obtain ⟨y, hy⟩ : ∃ y, xs.headD 0 = y := ⟨_, rfl⟩
  rw [hy] at hk hh
  have HX := hide hx
  have HXS := hide hxs
  have HY := hide hy
  have HV := hide hv
  have HCAP := hide hcap
  have hh2 := hx.tail.tail.tail.head
  obtain ⟨z, hz⟩ : ∃ z, xs.tail.tail.tail.headD 0 = z := ⟨_, rfl⟩
  rw [hz] at hj hh2
  have HZ := hide hz
  have HTS := hide hx.tail.tail.tail
  have HNR := hide hnr
  have HLT : Hid (tot (mny 2 40) ≤ 1048576) := by show tot (mny 2 40) ≤ 1048576; rw [mny_tot _ _ (by omega)]; omega
  have HLL9 : Hid ((mny 2 40).length ≤ 1048576) := by show (mny 2 40).length ≤ 1048576; rw [mny_len]; omega
  obtain ⟨LN, hLN⟩ : ∃ LN, mny 2 40 = LN := ⟨_, rfl⟩
  rw [hLN] at HLT HLL9 ⊢
  have HLNE := hide hLN
  clear hz hnr hLN
  obtain ⟨a, cap, rfl, -, -⟩ := hv
  have hb0 := below1 w (.cells #[.slice none 0 0, .slice none 0 0] 25)
  have RR := Row2.new w 25 (.slice none 0 0) (.slice none 0 0)
  have hzV : (w.alloc (.cells #[.slice none 0 0, .slice none 0 0] 25)).heap.size = w.heap.size + 1 := sz_alloc _ _
  clear hx hxs hy hc hcap
  go_enter Tryz.func4, Tryz.ntmps4
  go_wp2_with fail
  generalize w.alloc (.cells #[.slice none 0 0, .slice none 0 0] 25) = V at *
  have hVz : w.heap.size + 1 ≤ V.heap.size := by omega
  clear hzV
  refine (l1open_any _ code V ((unhide HV).below hb0 (Nat.le_refl _)) (unhide HCAP)).mono ?_
  rintro e w1 ⟨rfl, hc1, hz1, hb1⟩
  rw [unhide HXS] at hc1
  have hz1' : V.heap.size + 1 ≤ w1.heap.size := by omega
  have HC1 := hide hc1
  have RR1 := RR.below hb1 (by omega)
  clear hc1 hz1
  go_wp2_with fail
  refine (next_any V.heap.size V.heap.size xs w1 (unhide HC1) (unhide HX)).mono ?_
  rintro e w2 ⟨he, hc2, ho2⟩
  rw [unhide HY] at he
  subst he
  have hM2 : Mv w1.heap.size V.heap.size w1 w2 := ho2.mv _
  have hz2 : w1.heap.size ≤ w2.heap.size := hM2.size
  have RR2 := hide (RR1.mv hM2 (by omega) (by omega))
  have HC2 := hide hc2
  have hB2 : Below w.heap.size w w2 := (hb0.trans (hb1.mono (by omega))).trans ((Mv.below hM2 (by omega)).mono (by omega))
  clear hc2 ho2 hM2 RR1 RR HC1 hb0 hb1
  go_wp2_with fail
  refine (unhide HNR V.heap.size V.heap.size w2 (unhide HC2) (by omega)).mono ?_
  rintro e w3 ⟨⟨v3, rfl, hsd⟩, hc3, hm3⟩
  have hB3 : Below w.heap.size w w3 := hB2.trans ((Mv.below hm3 (by omega)).mono (by omega))
  have hz3 : w2.heap.size ≤ w3.heap.size := hm3.size
  have RR3 := (unhide RR2).mv hm3 (by omega) (by omega)
  have HSD3 := hide hsd
  obtain ⟨a1, c1, a2, c2, rfl⟩ := hsd.rd.val
  have hb4 := below1 w3 (.cells #[.slice a1 B.length c1, .slice a2 O.length c2] 25)
  have RS := Row2.new w3 25 (.slice a1 B.length c1) (.slice a2 O.length c2)
  have hzV4 : (w3.alloc (.cells #[.slice a1 B.length c1, .slice a2 O.length c2] 25)).heap.size = w3.heap.size + 1 := sz_alloc _ _
  have HC4 := hide (hc3.keep hb4 (by omega))
  clear hsd hc3 hm3
  go_wp2_with fail
  generalize w3.alloc (.cells #[.slice a1 B.length c1, .slice a2 O.length c2] 25) = V4 at *
  have hVz4 : w3.heap.size + 1 ≤ V4.heap.size := by omega
  clear hzV4
  refine (next_any V.heap.size V.heap.size xs.tail.tail.tail V4 (unhide HC4) (unhide HTS)).mono ?_
  rintro e w5 ⟨he, hc5, ho5⟩
  rw [unhide HZ] at he
  subst he
  have hM5 : Mv V4.heap.size V.heap.size V4 w5 := ho5.mv _
  have hz5 : V4.heap.size ≤ w5.heap.size := hM5.size
  have HC5 := hide hc5
  have RS5 := hide (RS.mv hM5 (by omega) (by omega))
  have RR5 := hide ((RR3.below hb4 (by omega)).mv hM5 (by omega) (by omega))
  have HSD5 := hide (((unhide HSD3).keep hb4 (Nat.le_refl _)).mvD hM5 (Nat.le_refl _) (by omega))
  have hB5 : Below w.heap.size w w5 := (hB3.trans (hb4.mono (by omega))).trans ((Mv.below hM5 (by omega)).mono (by omega))
  clear hc5 ho5 hM5 RS RR3 HC4 hb4 HSD3
  go_wp2_with fail
  refine (l4many_any 2 40 w5 (by omega) (by omega) (by omega)).mono ?_
  rintro e w6 ⟨⟨lv, rfl, us, hus, hlu⟩, hb6⟩
  rw [unhide HLNE] at hus
  have hz6 := hb6.size
  have HLN : Hid (SsAt mB 0 w6.heap.size w6 lv LN) := by
    have := (LB.footR hlu).all (Nat.le_refl _)
    rw [hus] at this
    exact this
  have RS6 := hide ((unhide RS5).below hb6 (by omega))
  have RR6 := hide ((unhide RR5).below hb6 (by omega))
  have HSD6 := hide ((unhide HSD5).keep hb6 (Nat.le_refl _))
  have hB6 : Below w.heap.size w w6 := hB5.trans (hb6.mono (by omega))
  obtain ⟨la, lc, rfl⟩ := own_is hlu.own
  clear hlu hus hb6
  obtain ⟨m0, m1, m2, m3⟩ := (unhide RS6).facts4
  have hS : Hid (∀ W' : World, Below w6.heap.size w6 W' → Row2 W' w3.heap.size 25 (.slice a1 B.length c1) (.slice a2 O.length c2)) := fun W' hW => (unhide RS6).below hW (by omega)
  go_wp2_with fail
  go_region_law (refine step_call_o 13 #[.tmp 42, .const (.int .u8 10), .tmp 44] _ rfl #[.slice la us.length lc, .int .u8 10, .bool true] rfl (by first | (simp [Act.eval]; done) | (simp [Act.eval, Act.put]; done) | (simp [Act.eval, htm]; done) | (simp [Act.eval, Act.put, htm]; done)) (run_l5text _ _ _) (l5text_any _ LN true _ (by exact unhide HLN) (by have := unhide HLT; omega) (by have := unhide HLL9; omega)) ?_; rintro e w7 ⟨⟨tv, rfl, hown⟩, hb7⟩; have hB7 : Below w6.heap.size w6 w7 := ⟨hb7.os, hb7.tape, hb7.output, hb7.size, hb7.block⟩; have hz7 := hB7.size; have HOW : Hid (w7.ownsRow w6.heap.size 5 1 tv (txt LN true).length ((txt LN true).map mB)) := hown; have RS7 := hide (unhide hS _ hB7); have RR7 := hide ((unhide RR6).below hB7 (by omega)); obtain ⟨ta, tc, rfl⟩ := own_is hown; obtain ⟨k0, k1, k2, k3⟩ := (unhide RS7).facts4; obtain ⟨n0, n1, n2, n3⟩ := (unhide RR7).facts4; clear hown hb7; refine ⟨_, rfl, ?_⟩)
  all_goals
    obtain ⟨TT, hTT⟩ : ∃ TT, txt LN true = TT := ⟨_, rfl⟩
    rw [hTT] at HOW ⊢
    have HTT := hide hTT
    clear hTT
    go_wp2_with fail
    obtain ⟨e0, e1, -⟩ := (((unhide RR7).put0 (u := .slice a1 B.length c1)).put1 (u := .slice a2 O.length c2)).facts4
    have hfin := own_slat (own_putlo (own_putlo (unhide HOW) (B := w.heap.size) (o := 0) (u := .slice a1 B.length c1) (by omega)) (B := w.heap.size) (o := 1) (u := .slice a2 O.length c2) (by omega))
    refine bodyPost_ret (v := .tuple #[.agg #[.slice a1 B.length c1, .slice a2 O.length c2], .slice ta TT.length tc]) (by simp [results, Tryz.results4, go_sem, e0, e1]) rfl ⟨⟨_, _, rfl, ?_, by rw [unhide HTT]; exact hfin.1, hfin.2⟩, bput2 (hB6.trans (hB7.mono (by omega))) (Nat.le_refl _) _ _⟩
    exact ((((unhide HSD6).keep hB7 (Nat.le_refl _)).put (by omega)).put (by omega)).low (by omega)

set_option maxHeartbeats 8000000 in
set_option maxRecDepth 100000 in
theorem drawIn_30_2 (code : List Int) (hc : Cod code) (B O : List (List Int)) (hk : (code.take 600).headD 0 % 6 = 0) (hj : (code.take 600).tail.tail.tail.headD 0 % 3 = 2) (hnr : ∀ (N D : Nat) (w : World), CdAt N D w (code.take 600).tail → D < w.heap.size → Calls Tryz.prog 11 #[.pointer (some ⟨D, 0, none⟩)] w (NrOut w.heap.size N D w (code.take 600).tail.tail.tail B O 30 19960)) (v : Value) (w : World) (hv : SlAt mB 0 0 w.heap.size w v code) (hcap : CapOk v) :
    Calls Tryz.prog 4 #[v] w (DrawnI w B O (txt (mny 2 41) false)) := by
  obtain ⟨xs, hxs⟩ : ∃ xs, code.take 600 = xs := ⟨_, rfl⟩
  have hx : Cod xs := by rw [← hxs]; exact fun x h => hc x (List.mem_of_mem_take h)
  rw [hxs] at hk hj hnr
  have hh := hx.head
  obtain ⟨y, hy⟩ : ∃ y, xs.headD 0 = y := ⟨_, rfl⟩
  rw [hy] at hk hh
  have HX := hide hx
  have HXS := hide hxs
  have HY := hide hy
  have HV := hide hv
  have HCAP := hide hcap
  have hh2 := hx.tail.tail.tail.head
  obtain ⟨z, hz⟩ : ∃ z, xs.tail.tail.tail.headD 0 = z := ⟨_, rfl⟩
  rw [hz] at hj hh2
  have HZ := hide hz
  have HTS := hide hx.tail.tail.tail
  have HNR := hide hnr
  have HLT : Hid (tot (mny 2 41) ≤ 1048576) := by show tot (mny 2 41) ≤ 1048576; rw [mny_tot _ _ (by omega)]; omega
  have HLL9 : Hid ((mny 2 41).length ≤ 1048576) := by show (mny 2 41).length ≤ 1048576; rw [mny_len]; omega
  obtain ⟨LN, hLN⟩ : ∃ LN, mny 2 41 = LN := ⟨_, rfl⟩
  rw [hLN] at HLT HLL9 ⊢
  have HLNE := hide hLN
  clear hz hnr hLN
  obtain ⟨a, cap, rfl, -, -⟩ := hv
  have hb0 := below1 w (.cells #[.slice none 0 0, .slice none 0 0] 25)
  have RR := Row2.new w 25 (.slice none 0 0) (.slice none 0 0)
  have hzV : (w.alloc (.cells #[.slice none 0 0, .slice none 0 0] 25)).heap.size = w.heap.size + 1 := sz_alloc _ _
  clear hx hxs hy hc hcap
  go_enter Tryz.func4, Tryz.ntmps4
  go_wp2_with fail
  generalize w.alloc (.cells #[.slice none 0 0, .slice none 0 0] 25) = V at *
  have hVz : w.heap.size + 1 ≤ V.heap.size := by omega
  clear hzV
  refine (l1open_any _ code V ((unhide HV).below hb0 (Nat.le_refl _)) (unhide HCAP)).mono ?_
  rintro e w1 ⟨rfl, hc1, hz1, hb1⟩
  rw [unhide HXS] at hc1
  have hz1' : V.heap.size + 1 ≤ w1.heap.size := by omega
  have HC1 := hide hc1
  have RR1 := RR.below hb1 (by omega)
  clear hc1 hz1
  go_wp2_with fail
  refine (next_any V.heap.size V.heap.size xs w1 (unhide HC1) (unhide HX)).mono ?_
  rintro e w2 ⟨he, hc2, ho2⟩
  rw [unhide HY] at he
  subst he
  have hM2 : Mv w1.heap.size V.heap.size w1 w2 := ho2.mv _
  have hz2 : w1.heap.size ≤ w2.heap.size := hM2.size
  have RR2 := hide (RR1.mv hM2 (by omega) (by omega))
  have HC2 := hide hc2
  have hB2 : Below w.heap.size w w2 := (hb0.trans (hb1.mono (by omega))).trans ((Mv.below hM2 (by omega)).mono (by omega))
  clear hc2 ho2 hM2 RR1 RR HC1 hb0 hb1
  go_wp2_with fail
  refine (unhide HNR V.heap.size V.heap.size w2 (unhide HC2) (by omega)).mono ?_
  rintro e w3 ⟨⟨v3, rfl, hsd⟩, hc3, hm3⟩
  have hB3 : Below w.heap.size w w3 := hB2.trans ((Mv.below hm3 (by omega)).mono (by omega))
  have hz3 : w2.heap.size ≤ w3.heap.size := hm3.size
  have RR3 := (unhide RR2).mv hm3 (by omega) (by omega)
  have HSD3 := hide hsd
  obtain ⟨a1, c1, a2, c2, rfl⟩ := hsd.rd.val
  have hb4 := below1 w3 (.cells #[.slice a1 B.length c1, .slice a2 O.length c2] 25)
  have RS := Row2.new w3 25 (.slice a1 B.length c1) (.slice a2 O.length c2)
  have hzV4 : (w3.alloc (.cells #[.slice a1 B.length c1, .slice a2 O.length c2] 25)).heap.size = w3.heap.size + 1 := sz_alloc _ _
  have HC4 := hide (hc3.keep hb4 (by omega))
  clear hsd hc3 hm3
  go_wp2_with fail
  generalize w3.alloc (.cells #[.slice a1 B.length c1, .slice a2 O.length c2] 25) = V4 at *
  have hVz4 : w3.heap.size + 1 ≤ V4.heap.size := by omega
  clear hzV4
  refine (next_any V.heap.size V.heap.size xs.tail.tail.tail V4 (unhide HC4) (unhide HTS)).mono ?_
  rintro e w5 ⟨he, hc5, ho5⟩
  rw [unhide HZ] at he
  subst he
  have hM5 : Mv V4.heap.size V.heap.size V4 w5 := ho5.mv _
  have hz5 : V4.heap.size ≤ w5.heap.size := hM5.size
  have HC5 := hide hc5
  have RS5 := hide (RS.mv hM5 (by omega) (by omega))
  have RR5 := hide ((RR3.below hb4 (by omega)).mv hM5 (by omega) (by omega))
  have HSD5 := hide (((unhide HSD3).keep hb4 (Nat.le_refl _)).mvD hM5 (Nat.le_refl _) (by omega))
  have hB5 : Below w.heap.size w w5 := (hB3.trans (hb4.mono (by omega))).trans ((Mv.below hM5 (by omega)).mono (by omega))
  clear hc5 ho5 hM5 RS RR3 HC4 hb4 HSD3
  go_wp2_with fail
  refine (l4many_any 2 41 w5 (by omega) (by omega) (by omega)).mono ?_
  rintro e w6 ⟨⟨lv, rfl, us, hus, hlu⟩, hb6⟩
  rw [unhide HLNE] at hus
  have hz6 := hb6.size
  have HLN : Hid (SsAt mB 0 w6.heap.size w6 lv LN) := by
    have := (LB.footR hlu).all (Nat.le_refl _)
    rw [hus] at this
    exact this
  have RS6 := hide ((unhide RS5).below hb6 (by omega))
  have RR6 := hide ((unhide RR5).below hb6 (by omega))
  have HSD6 := hide ((unhide HSD5).keep hb6 (Nat.le_refl _))
  have hB6 : Below w.heap.size w w6 := hB5.trans (hb6.mono (by omega))
  obtain ⟨la, lc, rfl⟩ := own_is hlu.own
  clear hlu hus hb6
  obtain ⟨m0, m1, m2, m3⟩ := (unhide RS6).facts4
  have hS : Hid (∀ W' : World, Below w6.heap.size w6 W' → Row2 W' w3.heap.size 25 (.slice a1 B.length c1) (.slice a2 O.length c2)) := fun W' hW => (unhide RS6).below hW (by omega)
  go_wp2_with fail
  go_region_law (refine step_call_o 13 #[.tmp 42, .const (.int .u8 10), .tmp 44] _ rfl #[.slice la us.length lc, .int .u8 10, .bool false] rfl (by first | (simp [Act.eval]; done) | (simp [Act.eval, Act.put]; done) | (simp [Act.eval, htm]; done) | (simp [Act.eval, Act.put, htm]; done)) (run_l5text _ _ _) (l5text_any _ LN false _ (by exact unhide HLN) (by have := unhide HLT; omega) (by have := unhide HLL9; omega)) ?_; rintro e w7 ⟨⟨tv, rfl, hown⟩, hb7⟩; have hB7 : Below w6.heap.size w6 w7 := ⟨hb7.os, hb7.tape, hb7.output, hb7.size, hb7.block⟩; have hz7 := hB7.size; have HOW : Hid (w7.ownsRow w6.heap.size 5 1 tv (txt LN false).length ((txt LN false).map mB)) := hown; have RS7 := hide (unhide hS _ hB7); have RR7 := hide ((unhide RR6).below hB7 (by omega)); obtain ⟨ta, tc, rfl⟩ := own_is hown; obtain ⟨k0, k1, k2, k3⟩ := (unhide RS7).facts4; obtain ⟨n0, n1, n2, n3⟩ := (unhide RR7).facts4; clear hown hb7; refine ⟨_, rfl, ?_⟩)
  all_goals
    obtain ⟨TT, hTT⟩ : ∃ TT, txt LN false = TT := ⟨_, rfl⟩
    rw [hTT] at HOW ⊢
    have HTT := hide hTT
    clear hTT
    go_wp2_with fail
    obtain ⟨e0, e1, -⟩ := (((unhide RR7).put0 (u := .slice a1 B.length c1)).put1 (u := .slice a2 O.length c2)).facts4
    have hfin := own_slat (own_putlo (own_putlo (unhide HOW) (B := w.heap.size) (o := 0) (u := .slice a1 B.length c1) (by omega)) (B := w.heap.size) (o := 1) (u := .slice a2 O.length c2) (by omega))
    refine bodyPost_ret (v := .tuple #[.agg #[.slice a1 B.length c1, .slice a2 O.length c2], .slice ta TT.length tc]) (by simp [results, Tryz.results4, go_sem, e0, e1]) rfl ⟨⟨_, _, rfl, ?_, by rw [unhide HTT]; exact hfin.1, hfin.2⟩, bput2 (hB6.trans (hB7.mono (by omega))) (Nat.le_refl _) _ _⟩
    exact ((((unhide HSD6).keep hB7 (Nat.le_refl _)).put (by omega)).put (by omega)).low (by omega)

set_option maxHeartbeats 8000000 in
set_option maxRecDepth 100000 in
theorem drawIn_nil (code : List Int) (hc : Cod code) (E : Nat → List (List Int) → List Int) (hE : EncE E) (hk : ¬ (code.take 600).headD 0 % 6 = 0) (hj : (dA E (code.take 600).tail).2.2.headD 0 % 7 = 1) (v : Value) (w : World) (hv : SlAt mB 0 0 w.heap.size w v code) (hcap : CapOk v) :
    Calls Tryz.prog 4 #[v] w (DrawnI w (dA E (code.take 600).tail).1 (dA E (code.take 600).tail).2.1 []) := by
  obtain ⟨xs, hxs⟩ : ∃ xs, code.take 600 = xs := ⟨_, rfl⟩
  have hx : Cod xs := by rw [← hxs]; exact fun x h => hc x (List.mem_of_mem_take h)
  rw [hxs] at hk hj
  have hh := hx.head
  obtain ⟨y, hy⟩ : ∃ y, xs.headD 0 = y := ⟨_, rfl⟩
  rw [hy] at hk hh
  have HX := hide hx
  have HXS := hide hxs
  have HY := hide hy
  have HV := hide hv
  have HCAP := hide hcap
  have HEE := hide hE
  have HDA := hide (dA_ok hE xs.tail hx.tail).2
  obtain ⟨A3, hA3⟩ : ∃ A3, dA E xs.tail = A3 := ⟨_, rfl⟩
  rw [hxs, hA3]
  rw [hA3] at HDA hj
  have HA3 := hide hA3
  obtain ⟨B, O, ts⟩ := A3
  dsimp only at HDA hj ⊢
  have hh2 := (unhide HDA).head
  obtain ⟨z, hz⟩ : ∃ z, ts.headD 0 = z := ⟨_, rfl⟩
  rw [hz] at hh2 hj
  have HZ := hide hz
  clear hA3 hz hE
  obtain ⟨a, cap, rfl, -, -⟩ := hv
  have hb0 := below1 w (.cells #[.slice none 0 0, .slice none 0 0] 25)
  have RR := Row2.new w 25 (.slice none 0 0) (.slice none 0 0)
  have hzV : (w.alloc (.cells #[.slice none 0 0, .slice none 0 0] 25)).heap.size = w.heap.size + 1 := sz_alloc _ _
  clear hx hxs hy hc hcap
  go_enter Tryz.func4, Tryz.ntmps4
  go_wp2_with fail
  generalize w.alloc (.cells #[.slice none 0 0, .slice none 0 0] 25) = V at *
  have hVz : w.heap.size + 1 ≤ V.heap.size := by omega
  clear hzV
  refine (l1open_any _ code V ((unhide HV).below hb0 (Nat.le_refl _)) (unhide HCAP)).mono ?_
  rintro e w1 ⟨rfl, hc1, hz1, hb1⟩
  rw [unhide HXS] at hc1
  have hz1' : V.heap.size + 1 ≤ w1.heap.size := by omega
  have HC1 := hide hc1
  have RR1 := RR.below hb1 (by omega)
  clear hc1 hz1
  go_wp2_with fail
  refine (next_any V.heap.size V.heap.size xs w1 (unhide HC1) (unhide HX)).mono ?_
  rintro e w2 ⟨he, hc2, ho2⟩
  rw [unhide HY] at he
  subst he
  have hM2 : Mv w1.heap.size V.heap.size w1 w2 := ho2.mv _
  have hz2 : w1.heap.size ≤ w2.heap.size := hM2.size
  have RR2 := hide (RR1.mv hM2 (by omega) (by omega))
  have HC2 := hide hc2
  have hB2 : Below w.heap.size w w2 := (hb0.trans (hb1.mono (by omega))).trans ((Mv.below hM2 (by omega)).mono (by omega))
  clear hc2 ho2 hM2 RR1 RR HC1 hb0 hb1
  go_wp2_with fail
  refine (l5drawAny_any E (unhide HEE) V.heap.size V.heap.size xs.tail w2 (unhide HC2) (unhide HX).tail (by omega)).mono ?_
  rintro e w3 ⟨⟨v3, rfl, hsd⟩, hc3, hm3⟩
  rw [unhide HA3] at hsd hc3
  dsimp only at hsd hc3
  have hB3 : Below w.heap.size w w3 := hB2.trans ((Mv.below hm3 (by omega)).mono (by omega))
  have hz3 : w2.heap.size ≤ w3.heap.size := hm3.size
  have RR3 := (unhide RR2).mv hm3 (by omega) (by omega)
  have HSD3 := hide hsd
  obtain ⟨a1, c1, a2, c2, rfl⟩ := hsd.rd.val
  have hb4 := below1 w3 (.cells #[.slice a1 B.length c1, .slice a2 O.length c2] 25)
  have RS := Row2.new w3 25 (.slice a1 B.length c1) (.slice a2 O.length c2)
  have hzV4 : (w3.alloc (.cells #[.slice a1 B.length c1, .slice a2 O.length c2] 25)).heap.size = w3.heap.size + 1 := sz_alloc _ _
  have HC4 := hide (hc3.keep hb4 (by omega))
  clear hsd hc3 hm3
  go_wp2_with fail
  generalize w3.alloc (.cells #[.slice a1 B.length c1, .slice a2 O.length c2] 25) = V4 at *
  have hVz4 : w3.heap.size + 1 ≤ V4.heap.size := by omega
  clear hzV4
  refine (next_any V.heap.size V.heap.size ts V4 (unhide HC4) (unhide HDA)).mono ?_
  rintro e w5 ⟨he, hc5, ho5⟩
  rw [unhide HZ] at he
  subst he
  have hM5 : Mv V4.heap.size V.heap.size V4 w5 := ho5.mv _
  have hz5 : V4.heap.size ≤ w5.heap.size := hM5.size
  have HC5 := hide hc5
  have RS5 := hide (RS.mv hM5 (by omega) (by omega))
  have RR5 := hide ((RR3.below hb4 (by omega)).mv hM5 (by omega) (by omega))
  have HSD5 := hide (((unhide HSD3).keep hb4 (Nat.le_refl _)).mvD hM5 (Nat.le_refl _) (by omega))
  have hB5 : Below w.heap.size w w5 := (hB3.trans (hb4.mono (by omega))).trans ((Mv.below hM5 (by omega)).mono (by omega))
  clear hc5 ho5 hM5 RS RR3 HC4 hb4 HSD3
  obtain ⟨m0, m1, m2, m3⟩ := (unhide RS5).facts4
  obtain ⟨n0, n1, n2, n3⟩ := (unhide RR5).facts4
  go_wp2_with fail
  obtain ⟨e0, e1, -⟩ := (((unhide RR5).put0 (u := .slice a1 B.length c1)).put1 (u := .slice a2 O.length c2)).facts4
  refine bodyPost_ret (v := .tuple #[.agg #[.slice a1 B.length c1, .slice a2 O.length c2], .slice none 0 0]) (by simp [results, Tryz.results4, go_sem, e0, e1]) rfl ⟨⟨_, _, rfl, ?_, ⟨none, 0, rfl, Nat.zero_le _, fun h => absurd h (by simp)⟩, CapOk.mk (Nat.le_refl _) (Nat.zero_le _)⟩, bput2 hB5 (Nat.le_refl _) _ _⟩
  exact (((unhide HSD5).put (by omega)).put (by omega)).low (by omega)

set_option maxHeartbeats 8000000 in
set_option maxRecDepth 100000 in
theorem drawIn_true (code : List Int) (hc : Cod code) (E : Nat → List (List Int) → List Int) (hE : EncE E) (hk : ¬ (code.take 600).headD 0 % 6 = 0) (hj : ¬ (dA E (code.take 600).tail).2.2.headD 0 % 7 = 1) (hj2 : (dA E (code.take 600).tail).2.2.headD 0 % 2 = 1) (v : Value) (w : World) (hv : SlAt mB 0 0 w.heap.size w v code) (hcap : CapOk v) :
    Calls Tryz.prog 4 #[v] w (DrawnI w (dA E (code.take 600).tail).1 (dA E (code.take 600).tail).2.1 (txt (dLs (1 + (dA E (code.take 600).tail).2.2.tail.headD 0 % 4).toNat (dA E (code.take 600).tail).2.2.tail.tail).1 true)) := by
  obtain ⟨xs, hxs⟩ : ∃ xs, code.take 600 = xs := ⟨_, rfl⟩
  have hx : Cod xs := by rw [← hxs]; exact fun x h => hc x (List.mem_of_mem_take h)
  rw [hxs] at hk hj hj2
  have hh := hx.head
  obtain ⟨y, hy⟩ : ∃ y, xs.headD 0 = y := ⟨_, rfl⟩
  rw [hy] at hk hh
  have HX := hide hx
  have HXS := hide hxs
  have HY := hide hy
  have HV := hide hv
  have HCAP := hide hcap
  have HEE := hide hE
  have HDA := hide (dA_ok hE xs.tail hx.tail).2
  obtain ⟨A3, hA3⟩ : ∃ A3, dA E xs.tail = A3 := ⟨_, rfl⟩
  rw [hxs, hA3]
  rw [hA3] at HDA hj hj2
  have HA3 := hide hA3
  obtain ⟨B, O, ts⟩ := A3
  dsimp only at HDA hj hj2 ⊢
  have hh2 := (unhide HDA).head
  obtain ⟨z, hz⟩ : ∃ z, ts.headD 0 = z := ⟨_, rfl⟩
  rw [hz] at hh2 hj hj2
  have HZ := hide hz
  have htm : z.tmod 2 = z % 2 := Int.tmod_eq_emod_of_nonneg hh2.1
  rw [hj2] at htm
  have hts := (unhide HDA).tail.head
  have hlok := dLs_ok (1 + ts.tail.headD 0 % 4).toNat ts.tail.tail (unhide HDA).tail.tail
  obtain ⟨LR, hLR⟩ : ∃ LR, dLs (1 + ts.tail.headD 0 % 4).toNat ts.tail.tail = LR := ⟨_, rfl⟩
  rw [hLR] at hlok ⊢
  have HLR := hide hLR
  obtain ⟨LN, us9⟩ := LR
  dsimp only at hlok ⊢
  have HLT : Hid (tot LN ≤ 1048576) := by show tot LN ≤ 1048576; omega
  have HLL9 : Hid (LN.length ≤ 1048576) := by show LN.length ≤ 1048576; omega
  clear hA3 hz hE hLR hlok hts
  obtain ⟨a, cap, rfl, -, -⟩ := hv
  have hb0 := below1 w (.cells #[.slice none 0 0, .slice none 0 0] 25)
  have RR := Row2.new w 25 (.slice none 0 0) (.slice none 0 0)
  have hzV : (w.alloc (.cells #[.slice none 0 0, .slice none 0 0] 25)).heap.size = w.heap.size + 1 := sz_alloc _ _
  clear hx hxs hy hc hcap
  go_enter Tryz.func4, Tryz.ntmps4
  go_wp2_with fail
  generalize w.alloc (.cells #[.slice none 0 0, .slice none 0 0] 25) = V at *
  have hVz : w.heap.size + 1 ≤ V.heap.size := by omega
  clear hzV
  refine (l1open_any _ code V ((unhide HV).below hb0 (Nat.le_refl _)) (unhide HCAP)).mono ?_
  rintro e w1 ⟨rfl, hc1, hz1, hb1⟩
  rw [unhide HXS] at hc1
  have hz1' : V.heap.size + 1 ≤ w1.heap.size := by omega
  have HC1 := hide hc1
  have RR1 := RR.below hb1 (by omega)
  clear hc1 hz1
  go_wp2_with fail
  refine (next_any V.heap.size V.heap.size xs w1 (unhide HC1) (unhide HX)).mono ?_
  rintro e w2 ⟨he, hc2, ho2⟩
  rw [unhide HY] at he
  subst he
  have hM2 : Mv w1.heap.size V.heap.size w1 w2 := ho2.mv _
  have hz2 : w1.heap.size ≤ w2.heap.size := hM2.size
  have RR2 := hide (RR1.mv hM2 (by omega) (by omega))
  have HC2 := hide hc2
  have hB2 : Below w.heap.size w w2 := (hb0.trans (hb1.mono (by omega))).trans ((Mv.below hM2 (by omega)).mono (by omega))
  clear hc2 ho2 hM2 RR1 RR HC1 hb0 hb1
  go_wp2_with fail
  refine (l5drawAny_any E (unhide HEE) V.heap.size V.heap.size xs.tail w2 (unhide HC2) (unhide HX).tail (by omega)).mono ?_
  rintro e w3 ⟨⟨v3, rfl, hsd⟩, hc3, hm3⟩
  rw [unhide HA3] at hsd hc3
  dsimp only at hsd hc3
  have hB3 : Below w.heap.size w w3 := hB2.trans ((Mv.below hm3 (by omega)).mono (by omega))
  have hz3 : w2.heap.size ≤ w3.heap.size := hm3.size
  have RR3 := (unhide RR2).mv hm3 (by omega) (by omega)
  have HSD3 := hide hsd
  obtain ⟨a1, c1, a2, c2, rfl⟩ := hsd.rd.val
  have hb4 := below1 w3 (.cells #[.slice a1 B.length c1, .slice a2 O.length c2] 25)
  have RS := Row2.new w3 25 (.slice a1 B.length c1) (.slice a2 O.length c2)
  have hzV4 : (w3.alloc (.cells #[.slice a1 B.length c1, .slice a2 O.length c2] 25)).heap.size = w3.heap.size + 1 := sz_alloc _ _
  have HC4 := hide (hc3.keep hb4 (by omega))
  clear hsd hc3 hm3
  go_wp2_with fail
  generalize w3.alloc (.cells #[.slice a1 B.length c1, .slice a2 O.length c2] 25) = V4 at *
  have hVz4 : w3.heap.size + 1 ≤ V4.heap.size := by omega
  clear hzV4
  refine (next_any V.heap.size V.heap.size ts V4 (unhide HC4) (unhide HDA)).mono ?_
  rintro e w5 ⟨he, hc5, ho5⟩
  rw [unhide HZ] at he
  subst he
  have hM5 : Mv V4.heap.size V.heap.size V4 w5 := ho5.mv _
  have hz5 : V4.heap.size ≤ w5.heap.size := hM5.size
  have HC5 := hide hc5
  have RS5 := hide (RS.mv hM5 (by omega) (by omega))
  have RR5 := hide ((RR3.below hb4 (by omega)).mv hM5 (by omega) (by omega))
  have HSD5 := hide (((unhide HSD3).keep hb4 (Nat.le_refl _)).mvD hM5 (Nat.le_refl _) (by omega))
  have hB5 : Below w.heap.size w w5 := (hB3.trans (hb4.mono (by omega))).trans ((Mv.below hM5 (by omega)).mono (by omega))
  clear hc5 ho5 hM5 RS RR3 HC4 hb4 HSD3
  go_wp2_with fail
  refine (l4drawLines_any V.heap.size V.heap.size ts.tail 4 w5 (unhide HC5) (unhide HDA).tail (by omega) (by omega) (by omega)).mono ?_
  rintro e w6 ⟨⟨lv, rfl, us, hus, hlu⟩, hc6, hm6⟩
  rw [unhide HLR] at hus
  dsimp only at hus
  have hz6 : w5.heap.size ≤ w6.heap.size := hm6.size
  have HLN : Hid (SsAt mB 0 w6.heap.size w6 lv LN) := by
    have := (LB.footR hlu).all (Nat.le_refl _)
    rw [hus] at this
    exact this
  have RS6 := hide ((unhide RS5).mv hm6 (by omega) (by omega))
  have RR6 := hide ((unhide RR5).mv hm6 (by omega) (by omega))
  have HSD6 := hide ((unhide HSD5).mvD hm6 (Nat.le_refl _) (by omega))
  have hB6 : Below w.heap.size w w6 := hB5.trans ((Mv.below hm6 (by omega)).mono (by omega))
  obtain ⟨la, lc, rfl⟩ := own_is hlu.own
  clear hlu hus hm6 hc6
  obtain ⟨m0, m1, m2, m3⟩ := (unhide RS6).facts4
  have hS : Hid (∀ W' : World, Below w6.heap.size w6 W' → Row2 W' w3.heap.size 25 (.slice a1 B.length c1) (.slice a2 O.length c2)) := fun W' hW => (unhide RS6).below hW (by omega)
  go_wp2_with fail
  go_region_law (refine step_call_o 13 #[.tmp 57, .const (.int .u8 10), .tmp 60] _ rfl #[.slice la us.length lc, .int .u8 10, .bool true] rfl (by first | (simp [Act.eval]; done) | (simp [Act.eval, Act.put]; done) | (simp [Act.eval, htm]; done) | (simp [Act.eval, Act.put, htm]; done)) (run_l5text _ _ _) (l5text_any _ LN true _ (by exact unhide HLN) (by have := unhide HLT; omega) (by have := unhide HLL9; omega)) ?_; rintro e w7 ⟨⟨tv, rfl, hown⟩, hb7⟩; have hB7 : Below w6.heap.size w6 w7 := ⟨hb7.os, hb7.tape, hb7.output, hb7.size, hb7.block⟩; have hz7 := hB7.size; have HOW : Hid (w7.ownsRow w6.heap.size 5 1 tv (txt LN true).length ((txt LN true).map mB)) := hown; have RS7 := hide (unhide hS _ hB7); have RR7 := hide ((unhide RR6).below hB7 (by omega)); obtain ⟨ta, tc, rfl⟩ := own_is hown; obtain ⟨k0, k1, k2, k3⟩ := (unhide RS7).facts4; obtain ⟨n0, n1, n2, n3⟩ := (unhide RR7).facts4; clear hown hb7; refine ⟨_, rfl, ?_⟩)
  all_goals
    obtain ⟨TT, hTT⟩ : ∃ TT, txt LN true = TT := ⟨_, rfl⟩
    rw [hTT] at HOW ⊢
    have HTT := hide hTT
    clear hTT
    go_wp2_with fail
    obtain ⟨e0, e1, -⟩ := (((unhide RR7).put0 (u := .slice a1 B.length c1)).put1 (u := .slice a2 O.length c2)).facts4
    have hfin := own_slat (own_putlo (own_putlo (unhide HOW) (B := w.heap.size) (o := 0) (u := .slice a1 B.length c1) (by omega)) (B := w.heap.size) (o := 1) (u := .slice a2 O.length c2) (by omega))
    refine bodyPost_ret (v := .tuple #[.agg #[.slice a1 B.length c1, .slice a2 O.length c2], .slice ta TT.length tc]) (by simp [results, Tryz.results4, go_sem, e0, e1]) rfl ⟨⟨_, _, rfl, ?_, by rw [unhide HTT]; exact hfin.1, hfin.2⟩, bput2 (hB6.trans (hB7.mono (by omega))) (Nat.le_refl _) _ _⟩
    exact ((((unhide HSD6).keep hB7 (Nat.le_refl _)).put (by omega)).put (by omega)).low (by omega)

set_option maxHeartbeats 8000000 in
set_option maxRecDepth 100000 in
theorem drawIn_false (code : List Int) (hc : Cod code) (E : Nat → List (List Int) → List Int) (hE : EncE E) (hk : ¬ (code.take 600).headD 0 % 6 = 0) (hj : ¬ (dA E (code.take 600).tail).2.2.headD 0 % 7 = 1) (hj2 : ¬ (dA E (code.take 600).tail).2.2.headD 0 % 2 = 1) (v : Value) (w : World) (hv : SlAt mB 0 0 w.heap.size w v code) (hcap : CapOk v) :
    Calls Tryz.prog 4 #[v] w (DrawnI w (dA E (code.take 600).tail).1 (dA E (code.take 600).tail).2.1 (txt (dLs (1 + (dA E (code.take 600).tail).2.2.tail.headD 0 % 4).toNat (dA E (code.take 600).tail).2.2.tail.tail).1 false)) := by
  obtain ⟨xs, hxs⟩ : ∃ xs, code.take 600 = xs := ⟨_, rfl⟩
  have hx : Cod xs := by rw [← hxs]; exact fun x h => hc x (List.mem_of_mem_take h)
  rw [hxs] at hk hj hj2
  have hh := hx.head
  obtain ⟨y, hy⟩ : ∃ y, xs.headD 0 = y := ⟨_, rfl⟩
  rw [hy] at hk hh
  have HX := hide hx
  have HXS := hide hxs
  have HY := hide hy
  have HV := hide hv
  have HCAP := hide hcap
  have HEE := hide hE
  have HDA := hide (dA_ok hE xs.tail hx.tail).2
  obtain ⟨A3, hA3⟩ : ∃ A3, dA E xs.tail = A3 := ⟨_, rfl⟩
  rw [hxs, hA3]
  rw [hA3] at HDA hj hj2
  have HA3 := hide hA3
  obtain ⟨B, O, ts⟩ := A3
  dsimp only at HDA hj hj2 ⊢
  have hh2 := (unhide HDA).head
  obtain ⟨z, hz⟩ : ∃ z, ts.headD 0 = z := ⟨_, rfl⟩
  rw [hz] at hh2 hj hj2
  have HZ := hide hz
  have htm : z.tmod 2 = z % 2 := Int.tmod_eq_emod_of_nonneg hh2.1
  have htm9 : ¬ z.tmod 2 = 1 := by rw [htm]; exact hj2
  clear htm
  have htm := htm9
  clear htm9
  have hts := (unhide HDA).tail.head
  have hlok := dLs_ok (1 + ts.tail.headD 0 % 4).toNat ts.tail.tail (unhide HDA).tail.tail
  obtain ⟨LR, hLR⟩ : ∃ LR, dLs (1 + ts.tail.headD 0 % 4).toNat ts.tail.tail = LR := ⟨_, rfl⟩
  rw [hLR] at hlok ⊢
  have HLR := hide hLR
  obtain ⟨LN, us9⟩ := LR
  dsimp only at hlok ⊢
  have HLT : Hid (tot LN ≤ 1048576) := by show tot LN ≤ 1048576; omega
  have HLL9 : Hid (LN.length ≤ 1048576) := by show LN.length ≤ 1048576; omega
  clear hA3 hz hE hLR hlok hts
  obtain ⟨a, cap, rfl, -, -⟩ := hv
  have hb0 := below1 w (.cells #[.slice none 0 0, .slice none 0 0] 25)
  have RR := Row2.new w 25 (.slice none 0 0) (.slice none 0 0)
  have hzV : (w.alloc (.cells #[.slice none 0 0, .slice none 0 0] 25)).heap.size = w.heap.size + 1 := sz_alloc _ _
  clear hx hxs hy hc hcap
  go_enter Tryz.func4, Tryz.ntmps4
  go_wp2_with fail
  generalize w.alloc (.cells #[.slice none 0 0, .slice none 0 0] 25) = V at *
  have hVz : w.heap.size + 1 ≤ V.heap.size := by omega
  clear hzV
  refine (l1open_any _ code V ((unhide HV).below hb0 (Nat.le_refl _)) (unhide HCAP)).mono ?_
  rintro e w1 ⟨rfl, hc1, hz1, hb1⟩
  rw [unhide HXS] at hc1
  have hz1' : V.heap.size + 1 ≤ w1.heap.size := by omega
  have HC1 := hide hc1
  have RR1 := RR.below hb1 (by omega)
  clear hc1 hz1
  go_wp2_with fail
  refine (next_any V.heap.size V.heap.size xs w1 (unhide HC1) (unhide HX)).mono ?_
  rintro e w2 ⟨he, hc2, ho2⟩
  rw [unhide HY] at he
  subst he
  have hM2 : Mv w1.heap.size V.heap.size w1 w2 := ho2.mv _
  have hz2 : w1.heap.size ≤ w2.heap.size := hM2.size
  have RR2 := hide (RR1.mv hM2 (by omega) (by omega))
  have HC2 := hide hc2
  have hB2 : Below w.heap.size w w2 := (hb0.trans (hb1.mono (by omega))).trans ((Mv.below hM2 (by omega)).mono (by omega))
  clear hc2 ho2 hM2 RR1 RR HC1 hb0 hb1
  go_wp2_with fail
  refine (l5drawAny_any E (unhide HEE) V.heap.size V.heap.size xs.tail w2 (unhide HC2) (unhide HX).tail (by omega)).mono ?_
  rintro e w3 ⟨⟨v3, rfl, hsd⟩, hc3, hm3⟩
  rw [unhide HA3] at hsd hc3
  dsimp only at hsd hc3
  have hB3 : Below w.heap.size w w3 := hB2.trans ((Mv.below hm3 (by omega)).mono (by omega))
  have hz3 : w2.heap.size ≤ w3.heap.size := hm3.size
  have RR3 := (unhide RR2).mv hm3 (by omega) (by omega)
  have HSD3 := hide hsd
  obtain ⟨a1, c1, a2, c2, rfl⟩ := hsd.rd.val
  have hb4 := below1 w3 (.cells #[.slice a1 B.length c1, .slice a2 O.length c2] 25)
  have RS := Row2.new w3 25 (.slice a1 B.length c1) (.slice a2 O.length c2)
  have hzV4 : (w3.alloc (.cells #[.slice a1 B.length c1, .slice a2 O.length c2] 25)).heap.size = w3.heap.size + 1 := sz_alloc _ _
  have HC4 := hide (hc3.keep hb4 (by omega))
  clear hsd hc3 hm3
  go_wp2_with fail
  generalize w3.alloc (.cells #[.slice a1 B.length c1, .slice a2 O.length c2] 25) = V4 at *
  have hVz4 : w3.heap.size + 1 ≤ V4.heap.size := by omega
  clear hzV4
  refine (next_any V.heap.size V.heap.size ts V4 (unhide HC4) (unhide HDA)).mono ?_
  rintro e w5 ⟨he, hc5, ho5⟩
  rw [unhide HZ] at he
  subst he
  have hM5 : Mv V4.heap.size V.heap.size V4 w5 := ho5.mv _
  have hz5 : V4.heap.size ≤ w5.heap.size := hM5.size
  have HC5 := hide hc5
  have RS5 := hide (RS.mv hM5 (by omega) (by omega))
  have RR5 := hide ((RR3.below hb4 (by omega)).mv hM5 (by omega) (by omega))
  have HSD5 := hide (((unhide HSD3).keep hb4 (Nat.le_refl _)).mvD hM5 (Nat.le_refl _) (by omega))
  have hB5 : Below w.heap.size w w5 := (hB3.trans (hb4.mono (by omega))).trans ((Mv.below hM5 (by omega)).mono (by omega))
  clear hc5 ho5 hM5 RS RR3 HC4 hb4 HSD3
  go_wp2_with fail
  refine (l4drawLines_any V.heap.size V.heap.size ts.tail 4 w5 (unhide HC5) (unhide HDA).tail (by omega) (by omega) (by omega)).mono ?_
  rintro e w6 ⟨⟨lv, rfl, us, hus, hlu⟩, hc6, hm6⟩
  rw [unhide HLR] at hus
  dsimp only at hus
  have hz6 : w5.heap.size ≤ w6.heap.size := hm6.size
  have HLN : Hid (SsAt mB 0 w6.heap.size w6 lv LN) := by
    have := (LB.footR hlu).all (Nat.le_refl _)
    rw [hus] at this
    exact this
  have RS6 := hide ((unhide RS5).mv hm6 (by omega) (by omega))
  have RR6 := hide ((unhide RR5).mv hm6 (by omega) (by omega))
  have HSD6 := hide ((unhide HSD5).mvD hm6 (Nat.le_refl _) (by omega))
  have hB6 : Below w.heap.size w w6 := hB5.trans ((Mv.below hm6 (by omega)).mono (by omega))
  obtain ⟨la, lc, rfl⟩ := own_is hlu.own
  clear hlu hus hm6 hc6
  obtain ⟨m0, m1, m2, m3⟩ := (unhide RS6).facts4
  have hS : Hid (∀ W' : World, Below w6.heap.size w6 W' → Row2 W' w3.heap.size 25 (.slice a1 B.length c1) (.slice a2 O.length c2)) := fun W' hW => (unhide RS6).below hW (by omega)
  go_wp2_with fail
  go_region_law (refine step_call_o 13 #[.tmp 57, .const (.int .u8 10), .tmp 60] _ rfl #[.slice la us.length lc, .int .u8 10, .bool false] rfl (by first | (simp [Act.eval]; done) | (simp [Act.eval, Act.put]; done) | (simp [Act.eval, htm]; done) | (simp [Act.eval, Act.put, htm]; done)) (run_l5text _ _ _) (l5text_any _ LN false _ (by exact unhide HLN) (by have := unhide HLT; omega) (by have := unhide HLL9; omega)) ?_; rintro e w7 ⟨⟨tv, rfl, hown⟩, hb7⟩; have hB7 : Below w6.heap.size w6 w7 := ⟨hb7.os, hb7.tape, hb7.output, hb7.size, hb7.block⟩; have hz7 := hB7.size; have HOW : Hid (w7.ownsRow w6.heap.size 5 1 tv (txt LN false).length ((txt LN false).map mB)) := hown; have RS7 := hide (unhide hS _ hB7); have RR7 := hide ((unhide RR6).below hB7 (by omega)); obtain ⟨ta, tc, rfl⟩ := own_is hown; obtain ⟨k0, k1, k2, k3⟩ := (unhide RS7).facts4; obtain ⟨n0, n1, n2, n3⟩ := (unhide RR7).facts4; clear hown hb7; refine ⟨_, rfl, ?_⟩)
  all_goals
    obtain ⟨TT, hTT⟩ : ∃ TT, txt LN false = TT := ⟨_, rfl⟩
    rw [hTT] at HOW ⊢
    have HTT := hide hTT
    clear hTT
    go_wp2_with fail
    obtain ⟨e0, e1, -⟩ := (((unhide RR7).put0 (u := .slice a1 B.length c1)).put1 (u := .slice a2 O.length c2)).facts4
    have hfin := own_slat (own_putlo (own_putlo (unhide HOW) (B := w.heap.size) (o := 0) (u := .slice a1 B.length c1) (by omega)) (B := w.heap.size) (o := 1) (u := .slice a2 O.length c2) (by omega))
    refine bodyPost_ret (v := .tuple #[.agg #[.slice a1 B.length c1, .slice a2 O.length c2], .slice ta TT.length tc]) (by simp [results, Tryz.results4, go_sem, e0, e1]) rfl ⟨⟨_, _, rfl, ?_, by rw [unhide HTT]; exact hfin.1, hfin.2⟩, bput2 (hB6.trans (hB7.mono (by omega))) (Nat.le_refl _) _ _⟩
    exact ((((unhide HSD6).keep hB7 (Nat.le_refl _)).put (by omega)).put (by omega)).low (by omega)

end Go.Proofs.YthgnefdefjannaaGreat
