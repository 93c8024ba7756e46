import Derived.Test.YtfjnhmgmcldidaaCb10
import Derived.Test.YtfjnhmgmcldidaaT3
import Derived.Deep.RegionHeld3
namespace Go.Proofs.Ytfjnhmgmcldidaa
open Go.RowKit

theorem SegRd.prt {w : World} {v : Value} {base : Int} {xss pss : List (List Int)} {ks : List Int} (h : SegRd w v base xss ks pss) : ∃ a1 c1 a2 c2 a3 c3, v = .agg #[.int .i64 base, .slice a1 xss.length c1, .slice a2 ks.length c2, .slice a3 pss.length c3] := by
  obtain ⟨lv, kv, pv, rfl, h1, h2, h3⟩ := h
  obtain ⟨a1, c1, rfl, -, -⟩ := h1
  obtain ⟨a2, c2, rfl, -, -⟩ := h2
  obtain ⟨a3, c3, rfl, -, -⟩ := h3
  exact ⟨_, _, _, _, _, _, rfl⟩
/-- One cell in a box of its own. -/
def Bx1 (w : World) (B : Nat) (t : TypeId) (v : Value) : Prop := w.heap[B]? = some (.cells #[v] t)
theorem Bx1.new (w : World) (t : TypeId) (v : Value) : Bx1 (w.alloc (.cells #[v] t)) w.heap.size t v := heap_alloc_new w _
theorem Bx1.below {w w' : World} {B m : Nat} {t : TypeId} {v : Value} (h : Bx1 w B t v) (hb : Below m w w') (hm : B < m) : Bx1 w' B t v := (hb.block B hm).trans h
theorem Bx1.on {w w' : World} {B : Nat} {t : TypeId} {v : Value} (h : Bx1 w B t v) (hb : w'.heap[B]? = w.heap[B]?) : Bx1 w' B t v := hb.trans h
theorem Bx1.cell {w : World} {B : Nat} {t : TypeId} {v : Value} (h : Bx1 w B t v) : w.cell? ⟨B, 0, none⟩ = some v := by
  unfold Bx1 at h
  simp [World.cell?, h]

theorem cndA_len (base : Int) (xss : List (List Int)) (ks : List Int) (pss qss : List (List Int)) : (cndA base xss ks pss qss).length ≤ xss.length := by
  by_cases h : Rch xss ks pss qss
  · rw [cndA_yes h]; exact cndL_len _ _ _
  · rw [cndA_no h]; exact Nat.zero_le _

set_option maxHeartbeats 16000000 in
set_option maxRecDepth 100000 in
theorem lawCand_any (u v : Value) (base : Int) (xss pss qss : List (List Int)) (ks : List Int) (w : World) (hu : SegRd w u base xss ks pss) (hv : SsAt mI 0 w.heap.size w v qss) (hb : In64' base) (hk : ∀ i : Nat, In64' (ks[i]?.getD 0)) (hp : ∀ k i : Nat, In64' ((pss[k]?.getD [])[i]?.getD 0)) (hq : ∀ k i : Nat, In64' ((qss[k]?.getD [])[i]?.getD 0)) :
    Calls Try.prog 3 #[u, .agg #[v]] w fun e w' => e = .returned (.bool true) ∧ Below w.heap.size w w' := by
  have HU := hide hu
  have HV := hide hv
  have HBI := hide hb
  have HKI := hide hk
  have HPI := hide hp
  have HQI := hide hq
  obtain ⟨a1, c1, a2, c2, a3, c3, rfl⟩ := hu.prt
  obtain ⟨b1, d1, rfl, -, -⟩ := hv
  have hb0 := below2 w (.cells #[.int .i64 base, .slice a1 xss.length c1, .slice a2 ks.length c2, .slice a3 pss.length c3] 26) (.cells #[.slice b1 qss.length d1] 28)
  have RA := (Row4.new w 26 (.int .i64 base) (.slice a1 xss.length c1) (.slice a2 ks.length c2) (.slice a3 pss.length c3)).alloc (.cells #[.slice b1 qss.length d1] 28)
  have RB := Bx1.new (w.alloc (.cells #[.int .i64 base, .slice a1 xss.length c1, .slice a2 ks.length c2, .slice a3 pss.length c3] 26)) 28 (.slice b1 qss.length d1)
  rw [sz_alloc] at RB
  have hzV : ((w.alloc (.cells #[.int .i64 base, .slice a1 xss.length c1, .slice a2 ks.length c2, .slice a3 pss.length c3] 26)).alloc (.cells #[.slice b1 qss.length d1] 28)).heap.size = w.heap.size + 2 := by simp
  obtain ⟨A, hA⟩ : ∃ A, A = cndA base xss ks pss qss := ⟨_, rfl⟩
  have HA := hide hA
  clear hu hb hk hp hq hA
  go_enter Try.func3, Try.ntmps3
  go_wp2_with fail
  generalize (w.alloc (.cells #[.int .i64 base, .slice a1 xss.length c1, .slice a2 ks.length c2, .slice a3 pss.length c3] 26)).alloc (.cells #[.slice b1 qss.length d1] 28) = V at *
  refine (szSegment_w _ base 1048576 xss pss ks _ ((unhide HU).below hb0 (Nat.le_refl _)) (by omega) (by omega)).mono ?_
  rintro e w1 ⟨⟨r, rfl, hr⟩, hb1⟩
  have hz1 := hb1.size
  have RA1 := hide (RA.below hb1 (by omega))
  have RB1 := hide (RB.below hb1 (by omega))
  have hB1 : Below w.heap.size w w1 := hb0.trans (hb1.mono (by omega))
  clear RA RB hb0 hb1
  by_cases hn : r < 0
  · clear hr
    go_wp2
    go_ret
    exact ⟨rfl, hB1⟩
  have hr' := hr.resolve_left hn
  have hx : r + xss.length + tot xss + ks.length + pss.length + tot pss ≤ 1048576 := hr'.2
  have h0r : 0 ≤ r := hr'.1
  clear hr hr'
  have g0 := (unhide RB1).cell
  go_wp2_with fail
  refine (szQuery_w _ qss r _ ((unhide HV).below hB1 (Nat.le_refl _)) (by omega) (by omega)).mono ?_
  rintro e w2 ⟨⟨r2, rfl, hr⟩, hb2⟩
  have hz2 := hb2.size
  have RA2 := hide ((unhide RA1).below hb2 (by omega))
  have RB2 := hide ((unhide RB1).below hb2 (by omega))
  have hB2 : Below w.heap.size w w2 := hB1.trans (hb2.mono (by omega))
  clear RA1 RB1 hB1 hb2 g0
  by_cases hn2 : r2 < 0
  · clear hr
    go_wp2
    go_ret
    exact ⟨rfl, hB2⟩
  have i1 : tot xss ≤ 1048576 := by omega
  have i2 : xss.length ≤ 1048576 := by omega
  have i3 : ks.length ≤ 1048576 := by omega
  have i4 : tot pss ≤ 1048576 := by omega
  have i5 : pss.length ≤ 1048576 := by omega
  have j1 : tot qss ≤ 1048576 := by omega
  have j2 : qss.length ≤ 1048576 := by omega
  have hnx : 0 ≤ segN xss ks pss ∧ segN xss ks pss ≤ 1048576 := by unfold segN; omega
  clear hr hx h0r hn
  have hS : Hid (∀ W' : World, Below w2.heap.size w2 W' → (W'.cell? ⟨w.heap.size, 0, none⟩ = some (.int .i64 base) ∧ W'.cell? ⟨w.heap.size, 1, none⟩ = some (.slice a1 xss.length c1) ∧ W'.cell? ⟨w.heap.size, 2, none⟩ = some (.slice a2 ks.length c2) ∧ W'.cell? ⟨w.heap.size, 3, none⟩ = some (.slice a3 pss.length c3)) ∧ W'.cell? ⟨w.heap.size + 1, 0, none⟩ = some (.slice b1 qss.length d1)) := fun W' hW => by
    have h1 := ((unhide RA2).below hW (by omega)).facts
    exact ⟨⟨h1.1, h1.2.1, h1.2.2.1, h1.2.2.2.1⟩, ((unhide RB2).below hW (by omega)).cell⟩
  obtain ⟨⟨f0, f1, f2, f3⟩, g0⟩ := unhide hS w2 (Below.refl _ _)
  go_wp2_with fail
  go_region_held3 (fun W' => (W'.cell? ⟨w.heap.size, 0, none⟩ = some (.int .i64 base) ∧ W'.cell? ⟨w.heap.size, 1, none⟩ = some (.slice a1 xss.length c1) ∧ W'.cell? ⟨w.heap.size, 2, none⟩ = some (.slice a2 ks.length c2) ∧ W'.cell? ⟨w.heap.size, 3, none⟩ = some (.slice a3 pss.length c3)) ∧ W'.cell? ⟨w.heap.size + 1, 0, none⟩ = some (.slice b1 qss.length d1))
    (first | (with_reducible exact unhide hS _ hBd) | (with_reducible exact unhide hS _ hBc) | (with_reducible exact unhide hS _ hBb) | go_keep)
    (first
      | (go_at_call 7; refine (toSegment_w _ base xss pss ks _ (by exact (unhide HU).below hB2.drew (Nat.le_refl _)) i1 i2 i3 i4 i5).mono ?_; rintro e w3 ⟨u3, rfl, hF3, hb3⟩; have hBb : Below w2.heap.size w2 w3 := ⟨hb3.os, hb3.tape, hb3.output, hb3.size, hb3.block⟩; have S3 := hide (hF3.rd (Nat.le_refl _)); obtain ⟨y1a, y1c, y2a, y2c, y3a, y3c, rfl⟩ := (unhide S3).prt; clear hF3 hb3)
      | (go_at_call 8; refine (toQuery_w _ qss _ (by exact (unhide HV).below (hB2.trans (hBb.mono (by omega))) (Nat.le_refl _)) j2 j1).mono ?_; rintro e w4 ⟨u4, rfl, hF4, hb4⟩; have hBc : Below w2.heap.size w2 w4 := hBb.trans (hb4.mono hBb.size); have S34 := hide ((unhide S3).below hb4 (Nat.le_refl _)); have S4 : Hid (SsAt mI 0 w4.heap.size w4 u4 qss) := hF4.at (fun k hk => by unfold Rng at hk; omega); obtain ⟨q4a, q4c, rfl, -, -⟩ := unhide S4; clear hF4 hb4)
      | (go_at_call 6; refine (specCand_any _ _ base xss pss qss ks _ (by exact unhide S34) (by exact unhide S4) i4).mono ?_; rintro e w5 ⟨ov, rfl, hown, hb5⟩; have hBd : Below w2.heap.size w2 w5 := hBc.trans (hb5.mono hBc.size); rw [← unhide HA] at hown; have HWN := hide hown; obtain ⟨wa, wc, rfl⟩ := own_is hown; clear hown hb5))
  have hz5 := hBd.size
  have hE5 : Below w2.heap.size w2 w5 := hBd
  have hAl : A.length ≤ 1048576 := by rw [unhide HA]; exact Nat.le_trans (cndA_len _ _ _ _ _) i2
  have HW5 : Hid (SlW mI 0 0 w5.heap.size w5 (.slice wa A.length wc) A) := own_slw (unhide HWN) (Nat.zero_le _) (by unfold maxLen; omega)
  clear HWN hBb hBc hBd S3 S34 S4 hS f0 f1 f2 f3 g0
  obtain ⟨f0, f1, f2, f3, -⟩ := ((unhide RA2).below hE5 (by omega)).facts
  go_wp2_with fail
  refine (toSegment_w _ base xss pss ks _ ((unhide HU).below (hB2.trans (hE5.mono (by omega))) (Nat.le_refl _)) i1 i2 i3 i4 i5).mono ?_
  rintro e w6 ⟨u6, rfl, hF6, hb6⟩
  have hz6 := hb6.size
  have HF6 := hide hF6
  obtain ⟨x1a, x1c, x2a, x2c, x3a, x3c, rfl⟩ := (hF6.rd (Nat.le_refl _)).prt
  have hE6 : Below w2.heap.size w2 w6 := hE5.trans (hb6.mono (by omega))
  have hD6 : Below w5.heap.size w5 w6 := hb6
  clear hF6 hb6 f0 f1 f2 f3
  have hV6 := below1 w6 (.cells #[.int .i64 base, .slice x1a xss.length x1c, .slice x2a ks.length x2c, .slice x3a pss.length x3c] 32)
  have BX := Row4.new w6 32 (.int .i64 base) (.slice x1a xss.length x1c) (.slice x2a ks.length x2c) (.slice x3a pss.length x3c)
  have hzV6 : (w6.alloc (.cells #[.int .i64 base, .slice x1a xss.length x1c, .slice x2a ks.length x2c, .slice x3a pss.length x3c] 32)).heap.size = w6.heap.size + 1 := sz_alloc _ _
  have g0 := ((unhide RB2).below (hE6.trans (hV6.mono (by omega))) (by omega)).cell
  go_wp2_with fail
  generalize w6.alloc (.cells #[.int .i64 base, .slice x1a xss.length x1c, .slice x2a ks.length x2c, .slice x3a pss.length x3c] 32) = V6 at *
  refine (toQuery_w _ qss _ ((unhide HV).below (hB2.trans ((hE6.trans (hV6.mono (by omega))).mono (by omega))) (Nat.le_refl _)) j2 j1).mono ?_
  rintro e w7 ⟨u7, rfl, hF7, hb7⟩
  have hz7 := hb7.size
  have HF7 := hide hF7
  obtain ⟨y4a, y4c, rfl⟩ : ∃ y4a y4c, u7 = .slice y4a qss.length y4c := by
    obtain ⟨a, c, e, -⟩ := hF7.at (N := w7.heap.size) (fun k hk => by unfold Rng at hk; omega)
    exact ⟨a, c, e⟩
  have hB67 : Below w6.heap.size w6 w7 := hV6.trans (hb7.mono (by omega))
  have hE7 : Below w2.heap.size w2 w7 := hE6.trans (hB67.mono (by omega))
  have hD7 : Below w5.heap.size w5 w7 := hD6.trans (hB67.mono (by omega))
  have BX7 := hide (BX.below hb7 (by omega))
  have HF67 := hide ((unhide HF6).keep hB67 (Nat.le_refl _))
  clear hF7 hb7 g0 hV6 BX HF6
  have hV7 := below1 w7 (.cells #[.slice y4a qss.length y4c] 34)
  have BY := Bx1.new w7 34 (.slice y4a qss.length y4c)
  have hzV7 : (w7.alloc (.cells #[.slice y4a qss.length y4c] 34)).heap.size = w7.heap.size + 1 := sz_alloc _ _
  obtain ⟨f0, f1, f2, f3, -⟩ := ((unhide BX7).alloc (.cells #[.slice y4a qss.length y4c] 34)).facts
  have g0 := BY.cell
  go_wp2_with fail
  generalize w7.alloc (.cells #[.slice y4a qss.length y4c] 34) = V7 at *
  have hSq : SsAt mI 0 V7.heap.size V7 (.slice y4a qss.length y4c) qss := ((unhide HF7).at (N := w7.heap.size) (fun k hk => by unfold Rng at hk; omega)).below hV7 (Nat.le_refl _)
  refine (implCand_any _ _ base xss pss qss ks _ (((unhide HF67).rd (by omega)).below hV7 (Nat.le_refl _)) hSq (unhide HBI) (unhide HKI) (unhide HPI) (unhide HQI)).mono ?_
  rintro e w8 ⟨gv, rfl, hown, hb8⟩
  rw [← unhide HA] at hown
  have hz8 := hb8.size
  obtain ⟨ga, gc, rfl⟩ := own_is hown
  have HG8 : Hid (SlW mI 0 V7.heap.size w8.heap.size w8 (.slice ga A.length gc) A) := own_slw hown (Nat.le_refl _) (by unfold maxLen; omega)
  have hB78 : Below w7.heap.size w7 w8 := hV7.trans (hb8.mono (by omega))
  have hE8 : Below w2.heap.size w2 w8 := hE7.trans (hB78.mono (by omega))
  have hD8 : Below w5.heap.size w5 w8 := hD7.trans (hB78.mono (by omega))
  have BX8 := hide ((unhide BX7).below hB78 (by omega))
  have BY8 := hide (BY.below hb8 (by omega))
  have HF68 := hide ((unhide HF67).keep hB78 (by omega))
  have HF78 := hide ((unhide HF7).same (w' := w8) (fun k hk => hB78.block k (by unfold Rng at hk; omega)))
  clear hown hb8 hV7 BY BX7 HF67 HF7 f0 f1 f2 f3 g0 hSq
  go_wp2_with fail
  refine (eqIntS_w _ _ A _ ((unhide HG8).all (Nat.le_refl _)) (((unhide HW5).keep hD8 (Nat.le_refl _)).all (by omega))).mono ?_
  rintro e w9 ⟨rfl, n9, hw9⟩
  have hB89 : Below w8.heap.size w8 w9 := by rw [hw9]; exact below_drewN (Below.refl _ _) n9
  have hz9 := hB89.size
  have hE9 : Below w2.heap.size w2 w9 := hE8.trans (hB89.mono (by omega))
  have hD9 : Below w5.heap.size w5 w9 := hD8.trans (hB89.mono (by omega))
  have BX9 := hide ((unhide BX8).below hB89 (by omega))
  have BY9 := hide ((unhide BY8).below hB89 (by omega))
  have HG9 := hide ((unhide HG8).keep hB89 (Nat.le_refl _))
  have HF69 := hide ((unhide HF68).keep hB89 (by omega))
  have HF79 := hide ((unhide HF78).same (w' := w9) (fun k hk => hB89.block k (by unfold Rng at hk; omega)))
  clear hw9 BX8 BY8 HF68 HF78 HG8
  have hS : Hid (∀ W' : World, Below w9.heap.size w9 W' → (W'.cell? ⟨w6.heap.size, 0, none⟩ = some (.int .i64 base) ∧ W'.cell? ⟨w6.heap.size, 1, none⟩ = some (.slice x1a xss.length x1c) ∧ W'.cell? ⟨w6.heap.size, 2, none⟩ = some (.slice x2a ks.length x2c) ∧ W'.cell? ⟨w6.heap.size, 3, none⟩ = some (.slice x3a pss.length x3c)) ∧ (W'.cell? ⟨w.heap.size, 0, none⟩ = some (.int .i64 base) ∧ W'.cell? ⟨w.heap.size, 1, none⟩ = some (.slice a1 xss.length c1) ∧ W'.cell? ⟨w.heap.size, 2, none⟩ = some (.slice a2 ks.length c2) ∧ W'.cell? ⟨w.heap.size, 3, none⟩ = some (.slice a3 pss.length c3))) := fun W' hW => by
    have h1 := ((unhide BX9).below hW (by omega)).facts
    have h2 := (((unhide RA2).below hE9 (by omega)).below hW (by omega)).facts
    exact ⟨⟨h1.1, h1.2.1, h1.2.2.1, h1.2.2.2.1⟩, ⟨h2.1, h2.2.1, h2.2.2.1, h2.2.2.2.1⟩⟩
  obtain ⟨⟨f0, f1, f2, f3⟩, g0, g1, g2, g3⟩ := unhide hS w9 (Below.refl _ _)
  go_wp2_with fail
  go_region_held3 (fun W' => (W'.cell? ⟨w6.heap.size, 0, none⟩ = some (.int .i64 base) ∧ W'.cell? ⟨w6.heap.size, 1, none⟩ = some (.slice x1a xss.length x1c) ∧ W'.cell? ⟨w6.heap.size, 2, none⟩ = some (.slice x2a ks.length x2c) ∧ W'.cell? ⟨w6.heap.size, 3, none⟩ = some (.slice x3a pss.length x3c)) ∧ (W'.cell? ⟨w.heap.size, 0, none⟩ = some (.int .i64 base) ∧ W'.cell? ⟨w.heap.size, 1, none⟩ = some (.slice a1 xss.length c1) ∧ W'.cell? ⟨w.heap.size, 2, none⟩ = some (.slice a2 ks.length c2) ∧ W'.cell? ⟨w.heap.size, 3, none⟩ = some (.slice a3 pss.length c3)))
    (first | (with_reducible exact unhide hS _ hB11) | (with_reducible exact unhide hS _ hB10) | go_keep)
    (first
      | (go_at_call 7; refine (toSegment_w _ base xss pss ks _ (by exact (unhide HU).below ((hB2.trans (hE9.mono (by omega))).drew) (Nat.le_refl _)) i1 i2 i3 i4 i5).mono ?_; rintro e w10 ⟨u10, rfl, hF10, hb10⟩; have hB10 : Below w9.heap.size w9 w10 := ⟨hb10.os, hb10.tape, hb10.output, hb10.size, hb10.block⟩; have S10 := hide (hF10.rd (Nat.le_refl _)); obtain ⟨s1a, s1c, s2a, s2c, s3a, s3c, rfl⟩ := (unhide S10).prt; clear hF10 hb10)
      | (go_at_call 11; refine (eqSegment_w _ _ base xss pss ks _ (by exact ((unhide HF69).rd (by omega)).below hB10 (Nat.le_refl _)) (by exact unhide S10)).mono ?_; rintro e w11 ⟨rfl, hb11⟩; have hB11 : Below w9.heap.size w9 w11 := hB10.trans (hb11.mono hB10.size); clear hb11))
  have hz11 := hB11.size
  have hE11 : Below w2.heap.size w2 w11 := hE9.trans (hB11.mono (by omega))
  have hD11 : Below w5.heap.size w5 w11 := hD9.trans (hB11.mono (by omega))
  have BX11 := hide ((unhide BX9).below hB11 (by omega))
  have BY11 := hide ((unhide BY9).below hB11 (by omega))
  have HG11 := hide ((unhide HG9).keep hB11 (by omega))
  have HF611 := hide ((unhide HF69).keep hB11 (by omega))
  have HF711 := hide ((unhide HF79).same (w' := w11) (fun k hk => hB11.block k (by unfold Rng at hk; omega)))
  clear hB10 hB11 S10 hS BX9 BY9 HG9 HF69 HF79 f0 f1 f2 f3 g0 g1 g2 g3
  have hS : Hid (∀ W' : World, Below w11.heap.size w11 W' → W'.cell? ⟨w7.heap.size, 0, none⟩ = some (.slice y4a qss.length y4c) ∧ W'.cell? ⟨w.heap.size + 1, 0, none⟩ = some (.slice b1 qss.length d1)) := fun W' hW => ⟨((unhide BY11).below hW (by omega)).cell, (((unhide RB2).below hE11 (by omega)).below hW (by omega)).cell⟩
  obtain ⟨f0, g0⟩ := unhide hS w11 (Below.refl _ _)
  go_wp2_with fail
  go_region_held3 (fun W' => W'.cell? ⟨w7.heap.size, 0, none⟩ = some (.slice y4a qss.length y4c) ∧ W'.cell? ⟨w.heap.size + 1, 0, none⟩ = some (.slice b1 qss.length d1))
    (first | (with_reducible exact unhide hS _ hB13) | (with_reducible exact unhide hS _ hB12) | go_keep)
    (first
      | (go_at_call 8; refine (toQuery_w _ qss _ (by exact (unhide HV).below ((hB2.trans (hE11.mono (by omega))).drew) (Nat.le_refl _)) j2 j1).mono ?_; rintro e w12 ⟨u12, rfl, hF12, hb12⟩; have hB12 : Below w11.heap.size w11 w12 := ⟨hb12.os, hb12.tape, hb12.output, hb12.size, hb12.block⟩; have S12 : Hid (SsAt mI 0 w12.heap.size w12 u12 qss) := hF12.at (fun k hk => by unfold Rng at hk; omega); obtain ⟨s1a, s1c, rfl, -, -⟩ := unhide S12; clear hF12 hb12)
      | (go_at_call 12; refine (eqQuery_w _ _ qss _ (by exact ((unhide HF711).at (N := w11.heap.size) (fun k hk => by unfold Rng at hk; omega)).below hB12 (Nat.le_refl _)) (by exact unhide S12)).mono ?_; rintro e w13 ⟨rfl, hb13⟩; have hB13 : Below w11.heap.size w11 w13 := hB12.trans (hb13.mono hB12.size); clear hb13))
  have hz13 := hB13.size
  have hE13 : Below w2.heap.size w2 w13 := hE11.trans (hB13.mono (by omega))
  have hD13 : Below w5.heap.size w5 w13 := hD11.trans (hB13.mono (by omega))
  have BX13 := hide ((unhide BX11).below hB13 (by omega))
  have BY13 := hide ((unhide BY11).below hB13 (by omega))
  have HG13 := hide ((unhide HG11).keep hB13 (by omega))
  have HF613 := hide ((unhide HF611).keep hB13 (by omega))
  have HF713 := hide ((unhide HF711).same (w' := w13) (fun k hk => hB13.block k (by unfold Rng at hk; omega)))
  clear hB12 hB13 S12 hS BX11 BY11 HG11 HF611 HF711 f0 g0
  obtain ⟨f0, f1, f2, f3, -⟩ := (unhide BX13).facts
  go_wp2_with fail
  refine (markSegment_w _ base 1 xss pss ks w5.heap.size w6.heap.size _ (unhide HF613) (by omega) (by omega) (by omega) (by omega) i1 i3 i4).mono ?_
  rintro e w14 ⟨rfl, -, hb14, hhi14⟩
  have hz14 := hb14.size
  have hE14 : Below w2.heap.size w2 w14 := hE13.trans (hb14.mono (by omega))
  have hD14 : Below w5.heap.size w5 w14 := hD13.trans hb14
  have BY14 := hide ((unhide BY13).on (hhi14 _ (by omega) (by omega)))
  have HG14 := hide ((unhide HG13).same (w' := w14) (fun k k1 k2 => hhi14 k (by omega) (by omega)))
  have HF714 := hide ((unhide HF713).same (w' := w14) (fun k hk => hhi14 k (by unfold Rng at hk; omega) (by unfold Rng at hk; omega)))
  clear hb14 hhi14 BX13 BY13 HG13 HF613 HF713 f0 f1 f2 f3
  have g0 := (unhide BY14).cell
  go_wp2_with fail
  refine (markQuery_w _ qss (1 + segN xss ks pss) _ _ (unhide HF714) (fun j hj => by unfold Rng at hj; omega) (by omega) (by omega) (by omega)).mono ?_
  rintro e w15 ⟨rfl, -, hz15, hbl15, ho15, ht15, hu15⟩
  have hD15 : Below w5.heap.size w5 w15 := hD14.trans ⟨ho15, ht15, hu15, by omega, fun k hk => hbl15 k (by omega) (fun hr => by unfold Rng at hr; omega)⟩
  have hE15 : Below w2.heap.size w2 w15 := hE5.trans (hD15.mono (by omega))
  have HG15 := hide ((unhide HG14).same (w' := w15) (fun k k1 k2 => hbl15 k (by omega) (fun hr => by unfold Rng at hr; omega)))
  have hk1 : ¬ (1 : Int) + segN xss ks pss + (tot qss : Int) < 0 := by omega
  clear hbl15 ho15 ht15 hu15 BY14 HG14 HF714 g0
  go_wp2_with fail
  refine (eqIntS_w _ _ A _ ((unhide HG15).all (by omega)) (((unhide HW5).keep hD15 (Nat.le_refl _)).all (by omega))).mono ?_
  rintro e w16 ⟨rfl, n16, hw16⟩
  have hB56 : Below w15.heap.size w15 w16 := by rw [hw16]; exact below_drewN (Below.refl _ _) n16
  have hz16 := hB56.size
  have hD16 : Below w5.heap.size w5 w16 := hD15.trans (hB56.mono (by omega))
  have HG16 := hide ((unhide HG15).keep hB56 (by omega))
  clear hw16 HG15
  go_wp2_with fail
  refine (markIntS_any _ A 1 V7.heap.size w8.heap.size _ (unhide HG16) (by omega) (by omega) (by omega)).mono ?_
  rintro e w17 ⟨rfl, hG17, hch17⟩
  have hz17 := hch17.size
  have hD17 : Below w5.heap.size w5 w17 := hD16.trans ⟨hch17.os, hch17.tape, hch17.output, by omega, fun k hk => hch17.block k (by omega)⟩
  have HG17 := hide hG17
  clear hG17 hch17 HG16
  have hk2 : ¬ (1 : Int) + (A.length : Int) < 0 := by omega
  go_wp2_with fail
  refine (heldIntS_any _ A.length 1 V7.heap.size w8.heap.size _ ((unhide HG17).at) (by omega) (by omega) (by omega)).mono ?_
  rintro e w18 ⟨rfl, rfl⟩
  have hE18 : Below w2.heap.size w2 w18 := hE5.trans (hD17.mono (by omega))
  have hz18 := hE18.size
  clear HG17
  have hS : Hid (∀ W' : World, Below w18.heap.size w18 W' → (W'.cell? ⟨w.heap.size, 0, none⟩ = some (.int .i64 base) ∧ W'.cell? ⟨w.heap.size, 1, none⟩ = some (.slice a1 xss.length c1) ∧ W'.cell? ⟨w.heap.size, 2, none⟩ = some (.slice a2 ks.length c2) ∧ W'.cell? ⟨w.heap.size, 3, none⟩ = some (.slice a3 pss.length c3)) ∧ W'.cell? ⟨w.heap.size + 1, 0, none⟩ = some (.slice b1 qss.length d1)) := fun W' hW => by
    have h1 := (((unhide RA2).below hE18 (by omega)).below hW (by omega)).facts
    exact ⟨⟨h1.1, h1.2.1, h1.2.2.1, h1.2.2.2.1⟩, (((unhide RB2).below hE18 (by omega)).below hW (by omega)).cell⟩
  obtain ⟨⟨f0, f1, f2, f3⟩, g0⟩ := unhide hS w18 (Below.refl _ _)
  go_wp2_with fail
  go_region_held3 (fun W' => (W'.cell? ⟨w.heap.size, 0, none⟩ = some (.int .i64 base) ∧ W'.cell? ⟨w.heap.size, 1, none⟩ = some (.slice a1 xss.length c1) ∧ W'.cell? ⟨w.heap.size, 2, none⟩ = some (.slice a2 ks.length c2) ∧ W'.cell? ⟨w.heap.size, 3, none⟩ = some (.slice a3 pss.length c3)) ∧ W'.cell? ⟨w.heap.size + 1, 0, none⟩ = some (.slice b1 qss.length d1))
    (first | (with_reducible exact unhide hS _ hBd) | (with_reducible exact unhide hS _ hBc) | (with_reducible exact unhide hS _ hBb) | go_keep)
    (first
      | (go_at_call 7; refine (toSegment_w _ base xss pss ks _ (by exact (unhide HU).below (hB2.trans (hE18.mono (by omega))).drew (Nat.le_refl _)) i1 i2 i3 i4 i5).mono ?_; rintro e w19 ⟨u3, rfl, hF3, hb3⟩; have hBb : Below w18.heap.size w18 w19 := ⟨hb3.os, hb3.tape, hb3.output, hb3.size, hb3.block⟩; have S3 := hide (hF3.rd (Nat.le_refl _)); obtain ⟨y1a, y1c, y2a, y2c, y3a, y3c, rfl⟩ := (unhide S3).prt; clear hF3 hb3)
      | (go_at_call 8; refine (toQuery_w _ qss _ (by exact (unhide HV).below (hB2.trans ((hE18.trans (hBb.mono (by omega))).mono (by omega))) (Nat.le_refl _)) j2 j1).mono ?_; rintro e w20 ⟨u4, rfl, hF4, hb4⟩; have hBc : Below w18.heap.size w18 w20 := hBb.trans (hb4.mono hBb.size); have S34 := hide ((unhide S3).below hb4 (Nat.le_refl _)); have S4 : Hid (SsAt mI 0 w20.heap.size w20 u4 qss) := hF4.at (fun k hk => by unfold Rng at hk; omega); obtain ⟨q4a, q4c, rfl, -, -⟩ := unhide S4; clear hF4 hb4)
      | (go_at_call 9; refine (implCand_any _ _ base xss pss qss ks _ (by exact unhide S34) (by exact unhide S4) (unhide HBI) (unhide HKI) (unhide HPI) (unhide HQI)).mono ?_; rintro e w21 ⟨ov, rfl, hown, hb5⟩; have hBd : Below w18.heap.size w18 w21 := hBc.trans (hb5.mono hBc.size); rw [← unhide HA] at hown; have HWN := hide hown; obtain ⟨ha, hc, rfl⟩ := own_is hown; clear hown hb5))
  have hz21 := hBd.size
  have hD21 : Below w5.heap.size w5 w21 := hD17.trans (hBd.mono (by omega))
  have HH : Hid (SlW mI 0 0 w21.heap.size w21 (.slice ha A.length hc) A) := own_slw (unhide HWN) (Nat.zero_le _) (by unfold maxLen; omega)
  have hE21 : Below w2.heap.size w2 w21 := hE5.trans (hD21.mono (by omega))
  clear HWN hBb hBc hBd S3 S34 S4 hS f0 f1 f2 f3 g0
  go_wp2_with fail
  refine (eqIntS_w _ _ A _ ((unhide HH).all (Nat.le_refl _)) (((unhide HW5).keep hD21 (Nat.le_refl _)).all (by omega))).mono ?_
  rintro e w22 ⟨rfl, n22, hw22⟩
  have hBf : Below w.heap.size w w22 := by rw [hw22]; exact below_drewN (hB2.trans (hE21.mono (by omega))) n22
  clear hw22
  go_wp2
  go_ret
  exact ⟨rfl, hBf⟩

end Go.Proofs.Ytfjnhmgmcldidaa
