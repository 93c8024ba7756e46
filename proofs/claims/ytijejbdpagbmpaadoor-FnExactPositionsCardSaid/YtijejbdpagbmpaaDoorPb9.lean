import Derived.Test.YtijejbdpagbmpaaDoorPb7
import Derived.Test.YtijejbdpagbmpaaDoorP2
namespace Go.Proofs.YtijejbdpagbmpaaDoor
open Go.RowKit

theorem AutoV.below {w w' : World} {v : Value} {S W : List (List Int)} {b : Bool} {F L : List Int} (h : AutoV w v S b F L W) (hb : Below w.heap.size w w') : AutoV w' v S b F L W := by
  obtain ⟨sv, fv, lv, wv, e, h1, h2, h3, h4⟩ := h
  exact ⟨sv, fv, lv, wv, e, h1.below hb (Nat.le_refl _), h2.below hb (Nat.le_refl _), h3.below hb (Nat.le_refl _), h4.below hb (Nat.le_refl _)⟩

set_option maxHeartbeats 2000000 in
theorem eqAuto_w (u v : Value) (S W : List (List Int)) (b : Bool) (F L : List Int) (w : World) (hu : AutoV w u S b F L W) (hv : AutoV w v S b F L W) :
    Calls Tryd.prog 8 #[u, v] w fun e w' => e = .returned (.bool true) ∧ Below w.heap.size w w' := by
  obtain ⟨su, fu, lu, wu, rfl, h1, h2, h3, h4⟩ := hu
  obtain ⟨sv, fv, lv, wv, rfl, k1, k2, k3, k4⟩ := hv
  obtain ⟨p1, pc1, rfl, -, -⟩ := id h1
  obtain ⟨p2, pc2, rfl, -, -⟩ := id h2
  obtain ⟨p3, pc3, rfl, -, -⟩ := id h3
  obtain ⟨p4, pc4, rfl, -, -⟩ := id h4
  obtain ⟨q1, qc1, rfl, -, -⟩ := id k1
  obtain ⟨q2, qc2, rfl, -, -⟩ := id k2
  obtain ⟨q3, qc3, rfl, -, -⟩ := id k3
  obtain ⟨q4, qc4, rfl, -, -⟩ := id k4
  have HU := hide (And.intro h1 (And.intro h2 (And.intro h3 h4)))
  have HV := hide (And.intro k1 (And.intro k2 (And.intro k3 k4)))
  obtain ⟨W0, hW0⟩ : ∃ W0, W0 = (w.alloc (.cells #[.slice p1 S.length pc1, .bool b, .slice p2 F.length pc2, .slice p3 L.length pc3, .slice p4 W.length pc4] 29)).alloc (.cells #[.slice q1 S.length qc1, .bool b, .slice q2 F.length qc2, .slice q3 L.length qc3, .slice q4 W.length qc4] 29) := ⟨_, rfl⟩
  have hb0 : Below w.heap.size w W0 := by rw [hW0]; exact below2 w _ _
  have hz0 : W0.heap.size = w.heap.size + 2 := by rw [hW0, sz_alloc, sz_alloc]
  have r1 : Row5 W0 w.heap.size (.slice p1 S.length pc1) b (.slice p2 F.length pc2) (.slice p3 L.length pc3) (.slice p4 W.length pc4) := by rw [hW0]; exact World.rowIs.alloc (Row5.new w _ _ _ _ _) _
  have r2 : Row5 W0 (w.heap.size + 1) (.slice q1 S.length qc1) b (.slice q2 F.length qc2) (.slice q3 L.length qc3) (.slice q4 W.length qc4) := by
    have := Row5.new (w.alloc (.cells #[.slice p1 S.length pc1, .bool b, .slice p2 F.length pc2, .slice p3 L.length pc3, .slice p4 W.length pc4] 29)) (.slice q1 S.length qc1) b (.slice q2 F.length qc2) (.slice q3 L.length qc3) (.slice q4 W.length qc4)
    rw [sz_alloc, ← hW0] at this
    exact this
  have HC : Hid (∀ V, Below (w.heap.size + 2) W0 V → (V.cell? ⟨w.heap.size, 0, none⟩ = some (.slice p1 S.length pc1) ∧ V.cell? ⟨w.heap.size, 1, none⟩ = some (.bool b) ∧ V.cell? ⟨w.heap.size, 2, none⟩ = some (.slice p2 F.length pc2) ∧ V.cell? ⟨w.heap.size, 3, none⟩ = some (.slice p3 L.length pc3) ∧ V.cell? ⟨w.heap.size, 4, none⟩ = some (.slice p4 W.length pc4)) ∧ (V.cell? ⟨w.heap.size + 1, 0, none⟩ = some (.slice q1 S.length qc1) ∧ V.cell? ⟨w.heap.size + 1, 1, none⟩ = some (.bool b) ∧ V.cell? ⟨w.heap.size + 1, 2, none⟩ = some (.slice q2 F.length qc2) ∧ V.cell? ⟨w.heap.size + 1, 3, none⟩ = some (.slice q3 L.length qc3) ∧ V.cell? ⟨w.heap.size + 1, 4, none⟩ = some (.slice q4 W.length qc4))) := fun V hV =>
    ⟨(r1.on (hV.block _ (by omega))).facts, (r2.on (hV.block _ (by omega))).facts⟩
  have HW0 := hide hW0
  clear h1 h2 h3 h4 k1 k2 k3 k4 hW0 r1 r2
  go_enter Tryd.func8, Tryd.ntmps8
  go_wp2_with fail
  rw [← unhide HW0]
  clear HW0
  refine (eqIntSS_w _ _ S _ ((unhide HU).1.below hb0 (Nat.le_refl _)) ((unhide HV).1.below hb0 (Nat.le_refl _))).mono ?_
  rintro e w1 ⟨rfl, hb1⟩
  have hB1 := hb0.trans (hb1.mono (by omega))
  have hz1 := hb1.size
  have HB1 := hide (hb1.mono (show w.heap.size + 2 ≤ W0.heap.size by omega))
  obtain ⟨⟨-, a1, a2, -, -⟩, -, b1, b2, -, -⟩ := unhide HC w1 (unhide HB1)
  clear hb1
  go_wp2_with fail
  refine (eqIntS_w _ _ F _ ((unhide HU).2.1.below hB1 (Nat.le_refl _)) ((unhide HV).2.1.below hB1 (Nat.le_refl _))).mono ?_
  rintro e w2 ⟨rfl, n2, hw2⟩
  have hb2 : Below w1.heap.size w1 w2 := by rw [hw2]; exact drewB n2
  have hz2 := hb2.size
  have hB2 := hB1.trans (hb2.mono (by omega))
  have HB2 := hide ((unhide HB1).trans (hb2.mono (by omega)))
  obtain ⟨⟨-, -, -, a3, -⟩, -, -, -, b3, -⟩ := unhide HC w2 (unhide HB2)
  clear a1 a2 b1 b2 hw2 hb2
  go_wp2_with fail
  refine (eqIntS_w _ _ L _ ((unhide HU).2.2.1.below hB2 (Nat.le_refl _)) ((unhide HV).2.2.1.below hB2 (Nat.le_refl _))).mono ?_
  rintro e w3 ⟨rfl, n3, hw3⟩
  have hb3 : Below w2.heap.size w2 w3 := by rw [hw3]; exact drewB n3
  have hz3 := hb3.size
  have hB3 := hB2.trans (hb3.mono (by omega))
  have HB3 := hide ((unhide HB2).trans (hb3.mono (by omega)))
  obtain ⟨⟨-, -, -, -, a4⟩, -, -, -, -, b4⟩ := unhide HC w3 (unhide HB3)
  clear a3 b3 hw3 hb3
  go_wp2_with fail
  refine (eqIntSS_w _ _ W _ ((unhide HU).2.2.2.below hB3 (Nat.le_refl _)) ((unhide HV).2.2.2.below hB3 (Nat.le_refl _))).mono ?_
  rintro e w4 ⟨rfl, hb4⟩
  have hB4 := hB3.trans (hb4.mono (by omega))
  clear hb4 a4 b4
  go_wp2
  go_ret
  exact ⟨rfl, hB4⟩

/-- A value that shows an automaton, in four places that lie apart. -/
structure AutoF (T1 T2 T3 T4 : Nat → Prop) (w : World) (sv fv lv wv : Value) (S : List (List Int)) (F L : List Int) (W : List (List Int)) : Prop where
  s : SsF mI 0 T1 w sv S
  f : SlF mI 0 T2 w fv F
  l : SlF mI 0 T3 w lv L
  k : SsF mI 0 T4 w wv W
theorem AutoF.same {T1 T2 T3 T4 : Nat → Prop} {w w' : World} {sv fv lv wv : Value} {S W : List (List Int)} {F L : List Int} (h : AutoF T1 T2 T3 T4 w sv fv lv wv S F L W) (e : ∀ k, T1 k ∨ T2 k ∨ T3 k ∨ T4 k → w'.heap[k]? = w.heap[k]?) : AutoF T1 T2 T3 T4 w' sv fv lv wv S F L W :=
  ⟨h.s.same (fun k hk => e k (Or.inl hk)), h.f.same (fun k hk => e k (Or.inr (Or.inl hk))), h.l.same (fun k hk => e k (Or.inr (Or.inr (Or.inl hk)))), h.k.same (fun k hk => e k (Or.inr (Or.inr (Or.inr hk))))⟩
theorem AutoF.at {T1 T2 T3 T4 : Nat → Prop} {w : World} {sv fv lv wv : Value} {S W : List (List Int)} {F L : List Int} (h : AutoF T1 T2 T3 T4 w sv fv lv wv S F L W) (e : ∀ k, T1 k ∨ T2 k ∨ T3 k ∨ T4 k → k < w.heap.size) (b : Bool) : AutoV w (.agg #[sv, .bool b, fv, lv, wv]) S b F L W :=
  ⟨sv, fv, lv, wv, rfl, h.s.at (fun k hk => e k (Or.inl hk)), h.f.at (fun k hk => e k (Or.inr (Or.inl hk))), h.l.at (fun k hk => e k (Or.inr (Or.inr (Or.inl hk)))), h.k.at (fun k hk => e k (Or.inr (Or.inr (Or.inr hk))))⟩
theorem markIntS_f (v : Value) (xs : List Int) (k : Int) (S : Nat → Prop) (w : World) (hv : SlF mI 0 S w v xs) (k0 : 0 ≤ k) (k1 : k ≤ 4611686018427387904) (hlen : xs.length ≤ 4194304) :
    Calls Tryd.prog 29 #[v, .int .i64 k] w fun e w' => e = .returned (.int .i64 (k + xs.length)) ∧ SlF mI 0 S w' v (cnts k xs.length) ∧ ChgF S w w' := by
  obtain ⟨lo, n, h1, h2⟩ := hv
  refine (markIntS_any v xs k lo n w h1 k0 k1 hlen).mono ?_
  rintro e w' ⟨q1, q2, q3⟩
  exact ⟨q1, ⟨lo, n, q2, h2⟩, ⟨q3.os, q3.tape, q3.output, q3.size, fun j hj => q3.block j (by by_cases e1 : j < lo; exact Or.inl e1; exact Or.inr (Nat.le_of_not_lt (fun e2 => hj (h2 j (by omega) e2))))⟩⟩

set_option maxHeartbeats 2000000 in
theorem markAuto_w (T1 T2 T3 T4 : Nat → Prop) (sv fv lv wv : Value) (S W : List (List Int)) (b : Bool) (F L : List Int) (k : Int) (w : World) (h : AutoF T1 T2 T3 T4 w sv fv lv wv S F L W) (hT : ∀ j, T1 j ∨ T2 j ∨ T3 j ∨ T4 j → j < w.heap.size)
    (d1 : ∀ j, T1 j → ¬ T2 j ∧ ¬ T3 j ∧ ¬ T4 j) (d2 : ∀ j, T2 j → ¬ T3 j ∧ ¬ T4 j) (d3 : ∀ j, T3 j → ¬ T4 j) (k0 : 0 ≤ k) (k1 : k ≤ 100) (b1 : tot S ≤ 1048576) (b2 : F.length ≤ 10000) (b3 : L.length ≤ 10000) (b4 : tot W ≤ 1048576) :
    Calls Tryd.prog 11 #[.agg #[sv, .bool b, fv, lv, wv], .int .i64 k] w fun e w' => e = .returned (.int .i64 (k + tot S + F.length + L.length + tot W)) ∧ AutoF T1 T2 T3 T4 w' sv fv lv wv (marksL cnts k S) (cnts (k + tot S) F.length) (cnts (k + tot S + F.length) L.length) (marksL cnts (k + tot S + F.length + L.length) W) ∧
      w.heap.size ≤ w'.heap.size ∧ (∀ j, j < w.heap.size → ¬ T1 j → ¬ T2 j → ¬ T3 j → ¬ T4 j → w'.heap[j]? = w.heap[j]?) ∧ w'.os = w.os ∧ w'.tape = w.tape ∧ w'.output = w.output := by
  have hb0 := below1 w (.cells #[sv, .bool b, fv, lv, wv] 29)
  have h0 := h.same (w' := w.alloc (.cells #[sv, .bool b, fv, lv, wv] 29)) (fun j hj => hb0.block j (hT j hj))
  have hr := Row5.new w sv b fv lv wv
  have hz0 : (w.alloc (.cells #[sv, .bool b, fv, lv, wv] 29)).heap.size = w.heap.size + 1 := sz_alloc _ _
  have HN : Hid (¬ T1 w.heap.size ∧ ¬ T2 w.heap.size ∧ ¬ T3 w.heap.size ∧ ¬ T4 w.heap.size) := ⟨fun q => by have := hT _ (Or.inl q); omega, fun q => by have := hT _ (Or.inr (Or.inl q)); omega, fun q => by have := hT _ (Or.inr (Or.inr (Or.inl q))); omega, fun q => by have := hT _ (Or.inr (Or.inr (Or.inr q))); omega⟩
  have HD1 := hide d1
  have HD2 := hide d2
  have HD3 := hide d3
  have HH := hide h0
  have HR := hide hr
  obtain ⟨a1, c1, rfl, -, -⟩ := h.s
  obtain ⟨lo2, n2, ⟨a2, c2, rfl, -, -⟩, -⟩ := h.f
  obtain ⟨lo3, n3, ⟨a3, c3, rfl, -, -⟩, -⟩ := h.l
  obtain ⟨a4, c4, rfl, -, -⟩ := h.k
  clear h h0 hr d1 d2 d3 hT
  go_enter Tryd.func11, Tryd.ntmps11
  go_wp2_with fail
  generalize w.alloc (.cells #[.slice a1 S.length c1, .bool b, .slice a2 F.length c2, .slice a3 L.length c3, .slice a4 W.length c4] 29) = W0 at *
  refine (markIntSS_w _ S k T1 _ (unhide HH).s k0 (by omega) (by omega)).mono ?_
  rintro e w1 ⟨rfl, s1, g1⟩
  have f1 := (unhide HH).f.same (fun j hj => g1.block j (fun q => ((unhide HD1) j q).1 hj))
  have l1 := (unhide HH).l.same (fun j hj => g1.block j (fun q => ((unhide HD1) j q).2.1 hj))
  have t1 := (unhide HH).k.same (fun j hj => g1.block j (fun q => ((unhide HD1) j q).2.2 hj))
  have r1 := (unhide HR).on (g1.block _ (unhide HN).1)
  obtain ⟨-, -, x2, -, -⟩ := r1.facts
  have HS1 := hide s1
  have HF1 := hide f1
  have HL1 := hide l1
  have HT1 := hide t1
  have HR1 := hide r1
  have HG1 := hide g1
  obtain ⟨K1, hK1⟩ : ∃ K1 : Int, K1 = k + tot S := ⟨_, rfl⟩
  rw [← hK1]
  have m1 : 0 ≤ K1 := by omega
  have o1 : K1 ≤ 1048676 := by omega
  have HK1 := hide hK1
  clear hK1
  clear s1 f1 l1 t1 r1 g1 HH HR
  go_wp2_with fail
  refine (markIntS_f _ F K1 T2 _ (unhide HF1) (by omega) (by omega) (by omega)).mono ?_
  rintro e w2 ⟨rfl, f2, g2⟩
  have s2 := (unhide HS1).same (fun j hj => g2.block j (fun q => ((unhide HD1) j hj).1 q))
  have l2 := (unhide HL1).same (fun j hj => g2.block j (fun q => ((unhide HD2) j q).1 hj))
  have t2 := (unhide HT1).same (fun j hj => g2.block j (fun q => ((unhide HD2) j q).2 hj))
  have r2 := (unhide HR1).on (g2.block _ (unhide HN).2.1)
  obtain ⟨-, -, -, x3, -⟩ := r2.facts
  have HS2 := hide s2
  have HF2 := hide f2
  have HL2 := hide l2
  have HT2 := hide t2
  have HR2 := hide r2
  have HG2 := hide g2
  obtain ⟨K2, hK2⟩ : ∃ K2 : Int, K2 = K1 + F.length := ⟨_, rfl⟩
  rw [← hK2]
  have m2 : 0 ≤ K2 := by omega
  have o2 : K2 ≤ 1058676 := by omega
  have HK2 := hide hK2
  clear hK2
  clear s2 f2 l2 t2 r2 g2 HS1 HF1 HL1 HT1 HR1 x2
  go_wp2_with fail
  refine (markIntS_f _ L K2 T3 _ (unhide HL2) (by omega) (by omega) (by omega)).mono ?_
  rintro e w3 ⟨rfl, l3, g3⟩
  have s3 := (unhide HS2).same (fun j hj => g3.block j (fun q => ((unhide HD1) j hj).2.1 q))
  have f3 := (unhide HF2).same (fun j hj => g3.block j (fun q => ((unhide HD2) j hj).1 q))
  have t3 := (unhide HT2).same (fun j hj => g3.block j (fun q => (unhide HD3) j q hj))
  have r3 := (unhide HR2).on (g3.block _ (unhide HN).2.2.1)
  obtain ⟨-, -, -, -, x4⟩ := r3.facts
  have HS3 := hide s3
  have HF3 := hide f3
  have HL3 := hide l3
  have HT3 := hide t3
  have HG3 := hide g3
  obtain ⟨K3, hK3⟩ : ∃ K3 : Int, K3 = K2 + L.length := ⟨_, rfl⟩
  rw [← hK3]
  have m3 : 0 ≤ K3 := by omega
  have o3 : K3 ≤ 1068676 := by omega
  have HK3 := hide hK3
  clear hK3
  clear s3 f3 l3 t3 r3 g3 HS2 HF2 HL2 HT2 HR2 x3
  go_wp2_with fail
  refine (markIntSS_w _ W K3 T4 _ (unhide HT3) (by omega) (by omega) (by omega)).mono ?_
  rintro e w4 ⟨rfl, t4, g4⟩
  have s4 := (unhide HS3).same (fun j hj => g4.block j (fun q => ((unhide HD1) j hj).2.2 q))
  have f4 := (unhide HF3).same (fun j hj => g4.block j (fun q => ((unhide HD2) j hj).2 q))
  have l4 := (unhide HL3).same (fun j hj => g4.block j (fun q => (unhide HD3) j hj q))
  have HA := hide (AutoF.mk s4 f4 l4 t4)
  have HG4 := hide g4
  clear s4 f4 l4 t4 g4 HS3 HF3 HL3 HT3 x4
  go_wp2
  go_ret
  have g1 := unhide HG1
  have g2 := unhide HG2
  have g3 := unhide HG3
  have g4 := unhide HG4
  have e1 := g1.size
  have e2 := g2.size
  have e3 := g3.size
  have e4 := g4.size
  have hK1 := unhide HK1
  have hK2 := unhide HK2
  have hK3 := unhide HK3
  subst hK3 hK2 hK1
  exact ⟨rfl, unhide HA, by omega, fun j hj n1 n2 n3 n4 => (g4.block j n4).trans ((g3.block j n3).trans ((g2.block j n2).trans ((g1.block j n1).trans (hb0.block j hj)))), g4.os.trans (g3.os.trans (g2.os.trans (g1.os.trans hb0.os))), g4.tape.trans (g3.tape.trans (g2.tape.trans (g1.tape.trans hb0.tape))), g4.output.trans (g3.output.trans (g2.output.trans (g1.output.trans hb0.output)))⟩

set_option maxHeartbeats 2000000 in
theorem heldAuto_w (sv fv lv wv : Value) (S W : List (List Int)) (b : Bool) (F L : List Int) (k : Int) (w : World) (h : AutoV w (.agg #[sv, .bool b, fv, lv, wv]) (marksL cnts k S) b (cnts (k + tot S) F.length) (cnts (k + tot S + F.length) L.length) (marksL cnts (k + tot S + F.length + L.length) W))
    (k0 : 0 ≤ k) (k1 : k ≤ 100) (b1 : tot S ≤ 1048576) (b2 : F.length ≤ 10000) (b3 : L.length ≤ 10000) (b4 : tot W ≤ 1048576) :
    Calls Tryd.prog 12 #[.agg #[sv, .bool b, fv, lv, wv], .int .i64 k] w fun e w' => e = .returned (.int .i64 (k + tot S + F.length + L.length + tot W)) ∧ Below w.heap.size w w' := by
  obtain ⟨sv', fv', lv', wv', e0, h1, h2, h3, h4⟩ := h
  cases e0
  obtain ⟨K1, hK1⟩ : ∃ K1 : Int, K1 = k + tot S := ⟨_, rfl⟩
  rw [← hK1] at h2 h3 h4 ⊢
  obtain ⟨K2, hK2⟩ : ∃ K2 : Int, K2 = K1 + F.length := ⟨_, rfl⟩
  rw [← hK2] at h3 h4 ⊢
  obtain ⟨K3, hK3⟩ : ∃ K3 : Int, K3 = K2 + L.length := ⟨_, rfl⟩
  rw [← hK3] at h4 ⊢
  obtain ⟨K4, hK4⟩ : ∃ K4 : Int, K4 = K3 + tot W := ⟨_, rfl⟩
  rw [← hK4]
  have m1 : 0 ≤ K1 := by omega
  have m2 : 0 ≤ K2 := by omega
  have m3 : 0 ≤ K3 := by omega
  have m4 : 0 ≤ K4 := by omega
  have n1 : ¬ K1 < 0 := by omega
  have n2 : ¬ K2 < 0 := by omega
  have n3 : ¬ K3 < 0 := by omega
  have n4 : ¬ K4 < 0 := by omega
  have o1 : K1 ≤ 1048676 := by omega
  have o2 : K2 ≤ 1058676 := by omega
  have o3 : K3 ≤ 1068676 := by omega
  have hb0 := below1 w (.cells #[sv, .bool b, fv, lv, wv] 29)
  have c1 := heldIntSS_w _ S k _ (h1.below hb0 (Nat.le_refl _)) k0 (by omega) (by omega)
  rw [← hK1] at c1
  have c2 := heldIntS_any _ F.length K1 _ _ _ (h2.below hb0 (Nat.le_refl _)) m1 (by omega) (by omega)
  rw [← hK2] at c2
  have c3 := heldIntS_any _ L.length K2 _ _ _ (h3.below hb0 (Nat.le_refl _)) m2 (by omega) (by omega)
  rw [← hK3] at c3
  have c4 := heldIntSS_w _ W K3 _ (h4.below hb0 (Nat.le_refl _)) m3 (by omega) (by omega)
  rw [← hK4] at c4
  have HC1 := hide c1
  have HC2 := hide c2
  have HC3 := hide c3
  have HC4 := hide c4
  obtain ⟨a1, d1, rfl, -, -⟩ := h1
  obtain ⟨a2, d2, rfl, -, -⟩ := h2
  obtain ⟨a3, d3, rfl, -, -⟩ := h3
  obtain ⟨a4, d4, rfl, -, -⟩ := h4
  clear hK1 hK2 hK3 hK4 c1 c2 c3 c4
  generalize (marksL cnts k S).length = e1 at *
  generalize (cnts K1 F.length).length = e2 at *
  generalize (cnts K2 L.length).length = e3 at *
  generalize (marksL cnts K3 W).length = e4 at *
  go_enter Tryd.func12, Tryd.ntmps12
  go_wp2_with fail
  refine (unhide HC1).mono ?_
  rintro e w1 ⟨rfl, rfl⟩
  go_wp2_with fail
  refine (unhide HC2).mono ?_
  rintro e w2 ⟨rfl, rfl⟩
  go_wp2_with fail
  refine (unhide HC3).mono ?_
  rintro e w3 ⟨rfl, rfl⟩
  go_wp2_with fail
  refine (unhide HC4).mono ?_
  rintro e w4 ⟨rfl, rfl⟩
  go_wp2
  go_ret
  exact ⟨rfl, hb0⟩

end Go.Proofs.YtijejbdpagbmpaaDoor
