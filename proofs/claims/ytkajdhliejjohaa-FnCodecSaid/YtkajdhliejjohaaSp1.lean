import Derived.Test.YtkajdhliejjohaaBu2
namespace Go.Proofs.Ytkajdhliejjohaa
open Go.RowKit

/-- What a spoiling leaves: a segment that can be read, and the rest of the code. -/
def Spoilt (N D lo : Nat) (w : World) (rest : List Int) (b : Int) (xss : List (List Int)) (ks : List Int) (pss : List (List Int)) (keep : World → Prop) (e : Ending) (w' : World) : Prop := (∃ v, e = .returned v ∧ SegRd w' v b xss ks pss) ∧ CdAt N D w' rest ∧ Mv lo D w w' ∧ keep w'

set_option maxHeartbeats 8000000 in
set_option maxRecDepth 100000 in
theorem l4spoil_0 (N D lo : Nat) (xs : List Int) (v : Value) (base : Int) (xss pss : List (List Int)) (ks : List Int) (w : World) (h : CdAt N D w xs) (hx : Cod xs) (hD : D < lo) (hlo : lo ≤ w.heap.size) (hs : SegO lo w v base xss ks pss) (hb0 : 0 ≤ base) (hb1 : base ≤ 1000) (hk : xs.headD 0 % 10 = 0) :
    Calls Try.prog 15 #[v, .pointer (some ⟨D, 0, none⟩)] w (Spoilt N D lo w xs.tail.tail (base + 1) xss ks pss (fun _ => True)) := by
  have HX := hide hx
  have hh := hx.head
  have hh2 := hx.tail.head
  obtain ⟨k, hy⟩ : ∃ y, xs.headD 0 = y := ⟨_, rfl⟩
  obtain ⟨y, hy2⟩ : ∃ y, xs.tail.headD 0 = y := ⟨_, rfl⟩
  rw [hy] at hk hh
  rw [hy2] at hh2
  have HY := hide hy
  have HY2 := hide hy2
  have HS := hide hs
  obtain ⟨la, lc, ka, kc, pa, pc, rfl, -⟩ := hs.rd.parts
  have hb00 := below2 w (.cells #[.int .i64 base, .slice la xss.length lc, .slice ka ks.length kc, .slice pa pss.length pc] 28) (.cells #[.int .i64 0, .slice none 0 0, .slice none 0 0, .slice none 0 0] 28)
  have RA := (Row4.new w 28 (.int .i64 base) (.slice la xss.length lc) (.slice ka ks.length kc) (.slice pa pss.length pc)).alloc (.cells #[.int .i64 0, .slice none 0 0, .slice none 0 0, .slice none 0 0] 28)
  have RB := Row4.new (w.alloc (.cells #[.int .i64 base, .slice la xss.length lc, .slice ka ks.length kc, .slice pa pss.length pc] 28)) 28 (.int .i64 0) (.slice none 0 0) (.slice none 0 0) (.slice none 0 0)
  rw [sz_alloc] at RB
  have H := hide (h.keep hb00 (by omega))
  clear hx hy hy2 hs h
  go_enter Try.func15, Try.ntmps15
  go_wp2_with fail
  obtain ⟨V, hV⟩ : ∃ V, V = (w.alloc (.cells #[.int .i64 base, .slice la xss.length lc, .slice ka ks.length kc, .slice pa pss.length pc] 28)).alloc (.cells #[.int .i64 0, .slice none 0 0, .slice none 0 0, .slice none 0 0] 28) := ⟨_, rfl⟩
  have hVz : V.heap.size = w.heap.size + 2 := by rw [hV, sz_alloc, sz_alloc]
  have hVz' : w.heap.size + 2 ≤ V.heap.size := by omega
  rw [← hV] at RA RB hb00 H ⊢
  clear hV hVz
  refine (next_any N D xs V (unhide H) (unhide HX)).mono ?_
  rintro e w1 ⟨he, hc1, ho1⟩
  rw [unhide HY] at he
  subst he
  have hz1 : V.heap.size ≤ w1.heap.size := Nat.le_of_eq ho1.size.symm
  have RA1 := RA.mv (ho1.mv V.heap.size) (by omega) (by omega)
  have RB1 := RB.mv (ho1.mv V.heap.size) (by omega) (by omega)
  have hM1 : Mv w.heap.size D w w1 := (Below.mv hb00 D).trans (ho1.mv w.heap.size)
  clear RA RB ho1 hb00 H
  go_wp2_with fail
  refine (next_any N D xs.tail w1 hc1 (unhide HX).tail).mono ?_
  rintro e w2 ⟨he, hc2, ho2⟩
  rw [unhide HY2] at he
  subst he
  have hz2 : w1.heap.size ≤ w2.heap.size := Nat.le_of_eq ho2.size.symm
  have RA2 := RA1.mv (ho2.mv w1.heap.size) (by omega) (by omega)
  have RB2 := RB1.mv (ho2.mv w1.heap.size) (by omega) (by omega)
  have hM2 := hM1.trans (ho2.mv w.heap.size)
  have HC2 := hide hc2
  have HRA := hide RA2
  have HRB := hide RB2
  obtain ⟨f0, f1, f2, f3, z0, z1, z2, z3⟩ := RA2.facts
  obtain ⟨g0, g1, g2, g3, t0, t1, t2, t3⟩ := RB2.facts
  clear RA1 RB1 RA2 RB2 hc1 hc2 ho2 hM1
  go_wp2_with fail
  obtain ⟨e0, e1, e2, e3, -⟩ := ((((((unhide HRB).other (b' := w.heap.size) (o := 0) (u := .int .i64 (base + 1)) (by omega)).put0 (u := .int .i64 (base + 1))).put1 (u := .slice la xss.length lc)).put2 (u := .slice ka ks.length kc)).put3 (u := .slice pa pss.length pc)).facts
  have hBW := bput4 (bput (o := 0) (Below.refl w.heap.size w2) (Nat.le_refl _) (.int .i64 (base + 1))) (Nat.le_succ _) (.int .i64 (base + 1)) (.slice la xss.length lc) (.slice ka ks.length kc) (.slice pa pss.length pc)
  have hMW := hM2.trans (Below.mv hBW D)
  have hsd := ((unhide HS).same hMW.size (fun k k1 k2 => hMW.block k k2 (by omega))).rd
  have HSD := hide hsd
  obtain ⟨_, _, _, ee, q1, q2, q3⟩ := hsd
  cases ee
  exact bodyPost_ret (v := .agg #[.int .i64 (base + 1), .slice la xss.length lc, .slice ka ks.length kc, .slice pa pss.length pc]) (by simp [results, Try.results15, go_sem, e0, e1, e2, e3]) rfl ⟨⟨_, rfl, ⟨_, _, _, rfl, q1, q2, q3⟩⟩, (unhide HC2).keep hBW (by omega), hMW.mono hlo, trivial⟩

set_option maxHeartbeats 8000000 in
set_option maxRecDepth 100000 in
theorem l4spoil_1 (N D lo : Nat) (xs : List Int) (v : Value) (base : Int) (xss pss : List (List Int)) (ks : List Int) (w : World) (h : CdAt N D w xs) (hx : Cod xs) (hD : D < lo) (hlo : lo ≤ w.heap.size) (hs : SegO lo w v base xss ks pss) (_ : 0 ≤ base) (_ : base ≤ 1000) (hk : xs.headD 0 % 10 = 1) :
    Calls Try.prog 15 #[v, .pointer (some ⟨D, 0, none⟩)] w (Spoilt N D lo w xs.tail.tail (-1) xss ks pss (fun w' => SegRd w' v base xss ks pss)) := by
  have HX := hide hx
  have hh := hx.head
  have hh2 := hx.tail.head
  obtain ⟨k, hy⟩ : ∃ y, xs.headD 0 = y := ⟨_, rfl⟩
  obtain ⟨y, hy2⟩ : ∃ y, xs.tail.headD 0 = y := ⟨_, rfl⟩
  rw [hy] at hk hh
  rw [hy2] at hh2
  have HY := hide hy
  have HY2 := hide hy2
  have HS := hide hs
  obtain ⟨la, lc, ka, kc, pa, pc, rfl, -⟩ := hs.rd.parts
  have hb00 := below2 w (.cells #[.int .i64 base, .slice la xss.length lc, .slice ka ks.length kc, .slice pa pss.length pc] 28) (.cells #[.int .i64 0, .slice none 0 0, .slice none 0 0, .slice none 0 0] 28)
  have RA := (Row4.new w 28 (.int .i64 base) (.slice la xss.length lc) (.slice ka ks.length kc) (.slice pa pss.length pc)).alloc (.cells #[.int .i64 0, .slice none 0 0, .slice none 0 0, .slice none 0 0] 28)
  have RB := Row4.new (w.alloc (.cells #[.int .i64 base, .slice la xss.length lc, .slice ka ks.length kc, .slice pa pss.length pc] 28)) 28 (.int .i64 0) (.slice none 0 0) (.slice none 0 0) (.slice none 0 0)
  rw [sz_alloc] at RB
  have H := hide (h.keep hb00 (by omega))
  clear hx hy hy2 hs h
  go_enter Try.func15, Try.ntmps15
  go_wp2_with fail
  obtain ⟨V, hV⟩ : ∃ V, V = (w.alloc (.cells #[.int .i64 base, .slice la xss.length lc, .slice ka ks.length kc, .slice pa pss.length pc] 28)).alloc (.cells #[.int .i64 0, .slice none 0 0, .slice none 0 0, .slice none 0 0] 28) := ⟨_, rfl⟩
  have hVz : V.heap.size = w.heap.size + 2 := by rw [hV, sz_alloc, sz_alloc]
  have hVz' : w.heap.size + 2 ≤ V.heap.size := by omega
  rw [← hV] at RA RB hb00 H ⊢
  clear hV hVz
  refine (next_any N D xs V (unhide H) (unhide HX)).mono ?_
  rintro e w1 ⟨he, hc1, ho1⟩
  rw [unhide HY] at he
  subst he
  have hz1 : V.heap.size ≤ w1.heap.size := Nat.le_of_eq ho1.size.symm
  have RA1 := RA.mv (ho1.mv V.heap.size) (by omega) (by omega)
  have RB1 := RB.mv (ho1.mv V.heap.size) (by omega) (by omega)
  have hM1 : Mv w.heap.size D w w1 := (Below.mv hb00 D).trans (ho1.mv w.heap.size)
  clear RA RB ho1 hb00 H
  go_wp2_with fail
  refine (next_any N D xs.tail w1 hc1 (unhide HX).tail).mono ?_
  rintro e w2 ⟨he, hc2, ho2⟩
  rw [unhide HY2] at he
  subst he
  have hz2 : w1.heap.size ≤ w2.heap.size := Nat.le_of_eq ho2.size.symm
  have RA2 := RA1.mv (ho2.mv w1.heap.size) (by omega) (by omega)
  have RB2 := RB1.mv (ho2.mv w1.heap.size) (by omega) (by omega)
  have hM2 := hM1.trans (ho2.mv w.heap.size)
  have HC2 := hide hc2
  have HRA := hide RA2
  have HRB := hide RB2
  obtain ⟨f0, f1, f2, f3, z0, z1, z2, z3⟩ := RA2.facts
  obtain ⟨g0, g1, g2, g3, t0, t1, t2, t3⟩ := RB2.facts
  clear RA1 RB1 RA2 RB2 hc1 hc2 ho2 hM1
  go_wp2_with fail
  obtain ⟨e0, e1, e2, e3, -⟩ := ((((((unhide HRB).other (b' := w.heap.size) (o := 0) (u := .int .i64 (-1)) (by omega)).put0 (u := .int .i64 (-1))).put1 (u := .slice la xss.length lc)).put2 (u := .slice ka ks.length kc)).put3 (u := .slice pa pss.length pc)).facts
  have hBW := bput4 (bput (o := 0) (Below.refl w.heap.size w2) (Nat.le_refl _) (.int .i64 (-1))) (Nat.le_succ _) (.int .i64 (-1)) (.slice la xss.length lc) (.slice ka ks.length kc) (.slice pa pss.length pc)
  have hMW := hM2.trans (Below.mv hBW D)
  have hsd := ((unhide HS).same hMW.size (fun k k1 k2 => hMW.block k k2 (by omega))).rd
  have HSD := hide hsd
  obtain ⟨_, _, _, ee, q1, q2, q3⟩ := hsd
  cases ee
  exact bodyPost_ret (v := .agg #[.int .i64 (-1), .slice la xss.length lc, .slice ka ks.length kc, .slice pa pss.length pc]) (by simp [results, Try.results15, go_sem, e0, e1, e2, e3]) rfl ⟨⟨_, rfl, ⟨_, _, _, rfl, q1, q2, q3⟩⟩, (unhide HC2).keep hBW (by omega), hMW.mono hlo, unhide HSD⟩

end Go.Proofs.Ytkajdhliejjohaa
