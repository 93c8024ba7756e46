import Derived.Test.YtjmajdfcfcgegaaPk10
import Derived.Deep.RegionHeld3
namespace Go.Proofs.Ytjmajdfcfcgegaa
open Go.RowKit

set_option maxHeartbeats 8000000 in
set_option maxRecDepth 100000 in
theorem lawMin_any (cl nx ac : Value) (xs ys : List Int) (zs : List Bool) (nc : Int) (w : World) (h1 : SlAt mI 0 0 w.heap.size w cl xs) (h2 : SlAt mI 0 0 w.heap.size w nx ys) (h3 : SlAt mT false 0 w.heap.size w ac zs) :
    Calls Try.prog 3 #[.agg #[cl, .int .i64 nc, nx, ac]] w fun e w' => e = .returned (.bool true) ∧ Below w.heap.size w w' := by
  obtain ⟨a1, c1, rfl, l1, -⟩ := id h1
  obtain ⟨a2, c2, rfl, l2, -⟩ := id h2
  obtain ⟨a3, c3, rfl, l3, -⟩ := id h3
  have H1 := hide h1
  have H2 := hide h2
  have H3 := hide h3
  clear h1 h2 h3
  go_enter Try.func3, Try.ntmps3
  go_wp2_with fail
  refine (szDFA_any _ _ _ _ _ _ _ _ _ nc _ l1 l2 l3).mono ?_
  rintro e w1 ⟨hq, hb1⟩
  have hz1 := hb1.size
  rw [sz_alloc] at hz1
  have hB1 : Below w.heap.size w w1 := (below1 w _).trans (hb1.mono (by rw [sz_alloc]; omega))
  have RA := hide ((Row4.new w 25 (.slice a1 xs.length c1) (.int .i64 nc) (.slice a2 ys.length c2) (.slice a3 zs.length c3)).below hb1 (by rw [sz_alloc]; omega))
  clear hb1
  rcases hq with rfl | ⟨hsum, rr, hr0, rfl⟩
  · go_wp2
    go_ret
    exact ⟨rfl, hB1⟩
  · obtain ⟨k0, k1, k2, k3, -⟩ := (unhide RA).facts
    have m1 : xs.length ≤ 1048576 := by omega
    have m2 : ys.length ≤ 1048576 := by omega
    have m3 : zs.length ≤ 1048576 := by omega
    clear hsum
    go_wp2_with fail
    refine (toDFA_c _ _ _ xs ys zs nc _ ((unhide H1).below hB1 (Nat.le_refl _)) ((unhide H2).below hB1 (Nat.le_refl _)) ((unhide H3).below hB1 (Nat.le_refl _)) m1 m2 m3).mono ?_
    rintro e w2 ⟨u1, u2, u3, s1, s2, rfl, o1, o2, o3, hu1, hu2, hu3, -, hb2⟩
    obtain ⟨b1, d1, rfl⟩ := hu1.val
    obtain ⟨b2, d2, rfl⟩ := hu2.val
    obtain ⟨b3, d3, rfl⟩ := hu3.val
    have hz2 := hb2.size
    have hB2 : Below w.heap.size w w2 := hB1.trans (hb2.mono (by omega))
    have RA2 := hide ((unhide RA).below hb2 (by omega))
    have U1 := hide (hu1.all (by omega))
    have U2 := hide (hu2.all (by omega))
    have U3 := hide (hu3.all (by omega))
    clear hb2 hu1 hu2 hu3 k0 k1 k2 k3 RA o1 o2 o3
    go_wp2_with fail
    refine (specMin_w _ _ _ xs ys zs nc _ (unhide U1) (unhide U2) (unhide U3)).mono ?_
    rintro e w3' ⟨cw, nw, aw, K, X, Y, Z, rfl, s1, s2, s3, hans, hb3⟩
    obtain ⟨p1, pc1, rfl, -, -⟩ := id s1
    obtain ⟨p2, pc2, rfl, -, -⟩ := id s2
    obtain ⟨p3, pc3, rfl, -, -⟩ := id s3
    have hz3 := hb3.size
    obtain ⟨w3, hw3⟩ : ∃ w3, w3 = w3'.alloc (.cells #[.slice p1 X.length pc1, .int .i64 K, .slice p2 Y.length pc2, .slice p3 Z.length pc3] 27) := ⟨_, rfl⟩
    have hV3 : Below w3'.heap.size w3' w3 := by rw [hw3]; exact below1 w3' _
    have S3 : Hid (SlAt mI 0 0 w3.heap.size w3 (.slice p1 X.length pc1) X ∧ SlAt mI 0 0 w3.heap.size w3 (.slice p2 Y.length pc2) Y ∧ SlAt mT false 0 w3.heap.size w3 (.slice p3 Z.length pc3) Z) := ⟨s1.below hV3 (Nat.le_refl _), s2.below hV3 (Nat.le_refl _), s3.below hV3 (Nat.le_refl _)⟩
    have RA3 := hide (((unhide RA2).below hb3 (by omega)).below hV3 (by omega))
    have RS3 : Hid (Row4 w3 w3'.heap.size 27 (.slice p1 X.length pc1) (.int .i64 K) (.slice p2 Y.length pc2) (.slice p3 Z.length pc3)) := by rw [hw3]; exact Row4.new w3' _ _ _ _ _
    have hz3' : w3'.heap.size + 1 ≤ w3.heap.size := by rw [hw3, sz_alloc]; omega
    have hB3 : Below w.heap.size w w3 := (hB2.trans (hb3.mono (by omega))).trans (hV3.mono (by omega))
    have Hans := hide hans
    obtain ⟨k0, k1, k2, k3, -⟩ := (unhide RA3).facts
    rw [hw3] at k0 k1 k2 k3
    have HW3 := hide hw3
    clear hans U1 U2 U3 hb3 RA2 hV3 hw3 s1 s2 s3
    go_wp2_with fail
    rw [← unhide HW3]
    clear HW3 k0 k1 k2 k3
    refine (toDFA_c _ _ _ xs ys zs nc _ ((unhide H1).below hB3 (Nat.le_refl _)) ((unhide H2).below hB3 (Nat.le_refl _)) ((unhide H3).below hB3 (Nat.le_refl _)) m1 m2 m3).mono ?_
    rintro e w4' ⟨x1, x2, x3, t1, t2, rfl, o1, o2, o3, hx1, hx2, hx3, hcap, hb4⟩
    obtain ⟨e1, f1, rfl⟩ := hx1.val
    obtain ⟨e2, f2, rfl⟩ := hx2.val
    obtain ⟨e3, f3, rfl⟩ := hx3.val
    have hz4' := hb4.size
    obtain ⟨w4, hw4⟩ : ∃ w4, w4 = w4'.alloc (.cells #[.slice e1 xs.length f1, .int .i64 nc, .slice e2 ys.length f2, .slice e3 zs.length f3] 27) := ⟨_, rfl⟩
    have hV4 : Below w4'.heap.size w4' w4 := by rw [hw4]; exact below1 w4' _
    have hz4 : w4'.heap.size + 1 ≤ w4.heap.size := by rw [hw4, sz_alloc]; omega
    have RX4 : Hid (Row4 w4 w4'.heap.size 27 (.slice e1 xs.length f1) (.int .i64 nc) (.slice e2 ys.length f2) (.slice e3 zs.length f3)) := by rw [hw4]; exact Row4.new w4' _ _ _ _ _
    have hB34 : Below w3.heap.size w3 w4 := hb4.trans (hV4.mono (by omega))
    have hB4 : Below w.heap.size w w4 := hB3.trans (hB34.mono (by omega))
    have RA4 := hide ((unhide RA3).below hB34 (by omega))
    have RS4 := hide ((unhide RS3).below hB34 (by omega))
    have X4 : Hid (SlW mI 0 w3.heap.size t1 w4 (.slice e1 xs.length f1) xs ∧ SlW mI 0 t1 t2 w4 (.slice e2 ys.length f2) ys ∧ SlW mT false t2 w4'.heap.size w4 (.slice e3 zs.length f3) zs) := ⟨hx1.keep hV4 (by omega), hx2.keep hV4 (by omega), hx3.keep hV4 (by omega)⟩
    have HCAP := hide hcap
    obtain ⟨k0, k1, k2, k3, -⟩ := (unhide RX4).facts
    have HW4 := hide hw4
    rw [hw4] at k0 k1 k2 k3
    clear hx1 hx2 hx3 hb4 RA3 RS3 hw4 hV4 hcap
    have HMI := hide (implMin_w _ _ _ xs ys zs nc w4 ((unhide X4).1.all (by omega)) ((unhide X4).2.1.all (by omega)) ((unhide X4).2.2.all (by omega)) (unhide HCAP))
    go_wp2_with fail
    rw [← unhide HW4]
    clear HW4 k0 k1 k2 k3
    refine (unhide HMI).mono ?_
    rintro e w5' ⟨cg, ng, ag, K', X', Y', Z', rfl, hDF, hT, dd1, dd2, hans', q1, q2, q3, hb5⟩
    obtain ⟨rfl, rfl, rfl, rfl⟩ := (unhide Hans).one hans'
    obtain ⟨T1, hT1⟩ : ∃ T1, T1 = OwB cg := ⟨_, rfl⟩
    obtain ⟨T2, hT2⟩ : ∃ T2, T2 = OwB ng := ⟨_, rfl⟩
    obtain ⟨T3, hT3⟩ : ∃ T3, T3 = OwB ag := ⟨_, rfl⟩
    rw [← hT1, ← hT2, ← hT3] at hDF hT
    rw [← hT1, ← hT2, ← hT3] at dd1
    rw [← hT2, ← hT3] at dd2
    clear hT1 hT2 hT3
    obtain ⟨g1, gc1, rfl⟩ := hDF.x.val
    obtain ⟨g2, gc2, rfl⟩ := hDF.y.val
    obtain ⟨g3, gc3, rfl⟩ := hDF.z.val
    have hz5 := hb5.size
    obtain ⟨w5, hw5⟩ : ∃ w5, w5 = w5'.alloc (.cells #[.slice g1 X.length gc1, .int .i64 K, .slice g2 Y.length gc2, .slice g3 Z.length gc3] 27) := ⟨_, rfl⟩
    have hV5 : Below w5'.heap.size w5' w5 := by rw [hw5]; exact below1 w5' _
    have hz5' : w5'.heap.size + 1 ≤ w5.heap.size := by rw [hw5, sz_alloc]; omega
    have RG5 : Hid (Row4 w5 w5'.heap.size 27 (.slice g1 X.length gc1) (.int .i64 K) (.slice g2 Y.length gc2) (.slice g3 Z.length gc3)) := by rw [hw5]; exact Row4.new w5' _ _ _ _ _
    have hB45 : Below w4.heap.size w4 w5 := hb5.trans (hV5.mono (by omega))
    have hB35 : Below w3.heap.size w3 w5 := hB34.trans (hB45.mono (by omega))
    have hB5 : Below w.heap.size w w5 := hB4.trans (hB45.mono (by omega))
    have RA5 := hide ((unhide RA4).below hB45 (by omega))
    have RS5 := hide ((unhide RS4).below hB45 (by omega))
    have RX5 := hide ((unhide RX4).below hB45 (by omega))
    have X5 : Hid (SlW mI 0 w3.heap.size t1 w5 (.slice e1 xs.length f1) xs ∧ SlW mI 0 t1 t2 w5 (.slice e2 ys.length f2) ys ∧ SlW mT false t2 w4'.heap.size w5 (.slice e3 zs.length f3) zs) := ⟨(unhide X4).1.keep hB45 (by omega), (unhide X4).2.1.keep hB45 (by omega), (unhide X4).2.2.keep hB45 (by omega)⟩
    have HT := hide hT
    have HD1 := hide dd1
    have HD2 := hide dd2
    have G5 := hide (hDF.same (w' := w5) (fun k hk => hV5.block k (hT k hk).2))
    have hTl : ∀ k, T1 k ∨ T2 k ∨ T3 k → k < w5.heap.size := fun k hk => by have := (hT k hk).2; omega
    have HTL := hide hTl
    obtain ⟨y0, y1, y2, y3, -⟩ := (unhide RS5).facts
    rw [hw5] at y0 y1 y2 y3
    have HW5 := hide hw5
    have hE5 : Hid (∀ V : World, Below w5.heap.size w5 V → SlAt mI 0 0 V.heap.size V (.slice p1 X.length pc1) X ∧ SlAt mI 0 0 V.heap.size V (.slice p2 Y.length pc2) Y ∧ SlAt mT false 0 V.heap.size V (.slice p3 Z.length pc3) Z) := fun V hV => by
      have hh := hB35.trans (hV.mono (by omega))
      exact ⟨(unhide S3).1.below hh (Nat.le_refl _), (unhide S3).2.1.below hh (Nat.le_refl _), (unhide S3).2.2.below hh (Nat.le_refl _)⟩
    have HEQ5 := hide (eqDFA_same _ _ _ _ _ _ X Y Z K w5 ((unhide G5).x.at (fun k hk => unhide HTL k (.inl hk))) ((unhide G5).y.at (fun k hk => unhide HTL k (.inr (.inl hk)))) ((unhide G5).z.at (fun k hk => unhide HTL k (.inr (.inr hk)))) (unhide hE5 w5 (Below.refl _ _)).1 (unhide hE5 w5 (Below.refl _ _)).2.1 (unhide hE5 w5 (Below.refl _ _)).2.2)
    clear hDF hb5 X4 hans' RA4 RX4 hB34 hT dd1 dd2 hTl RS4 hV5 hw5 HMI
    go_wp2_with fail
    rw [← unhide HW5]
    clear HW5 y0 y1 y2 y3
    refine (unhide HEQ5).mono ?_
    rintro e w6 ⟨rfl, hb6⟩
    have hz6 := hb6.size
    have hW6 : Below w.heap.size w w6 := hB5.trans (hb6.mono (by omega))
    have hB36 : Below w3.heap.size w3 w6 := hB35.trans (hb6.mono (by omega))
    have RA6 := hide ((unhide RA5).below hb6 (by omega))
    have RX6 := hide ((unhide RX5).below hb6 (by omega))
    have RS6 := hide ((unhide RS5).below hb6 (by omega))
    have RG6 := hide ((unhide RG5).below hb6 (by omega))
    have X6 : Hid (SlW mI 0 w3.heap.size t1 w6 (.slice e1 xs.length f1) xs ∧ SlW mI 0 t1 t2 w6 (.slice e2 ys.length f2) ys ∧ SlW mT false t2 w4'.heap.size w6 (.slice e3 zs.length f3) zs) := ⟨(unhide X5).1.keep hb6 (by omega), (unhide X5).2.1.keep hb6 (by omega), (unhide X5).2.2.keep hb6 (by omega)⟩
    have G6 := hide ((unhide G5).same (w' := w6) (fun k hk => hb6.block k (unhide HTL k hk)))
    obtain ⟨k0, k1, k2, k3, -⟩ := (unhide RA6).facts
    obtain ⟨x0, x1, x2, x3, -⟩ := (unhide RX6).facts
    clear hb6 X5 G5 RA5 RX5 RS5 RG5 hB5 hB35 HEQ5 hE5
    go_wp2_with fail
    go_region_with ((first | (go_at_call 6; refine (toDFA_c _ _ _ xs ys zs nc _ (by exact (unhide H1).below hW6.drew (Nat.le_refl _)) (by exact (unhide H2).below hW6.drew (Nat.le_refl _)) (by exact (unhide H3).below hW6.drew (Nat.le_refl _)) m1 m2 m3).mono ?_; rintro e w8 ⟨v1, v2, v3, r1, r2, rfl, j1, j2, j3, hy1, hy2, hy3, -, hb8⟩; have hb8' : Below w6.heap.size w6 w8 := ⟨hb8.os, hb8.tape, hb8.output, hb8.size, hb8.block⟩; clear hb8; obtain ⟨gg1, gh1, rfl⟩ := hy1.val; obtain ⟨gg2, gh2, rfl⟩ := hy2.val; obtain ⟨gg3, gh3, rfl⟩ := hy3.val; have hz8 := hb8'.size; have Z1 := hide (hy1.all (Nat.le_trans j2 j3)); have Z2 := hide (hy2.all j3); have Z3 := hide (hy3.all (Nat.le_refl _)); clear hy1 hy2 hy3; obtain ⟨p0, p1', p2', p3', -⟩ := ((unhide RX6).below hb8' (by omega)).facts) | (go_at_call 8; refine (eqDFA_same _ _ _ _ _ _ xs ys zs nc _ (by exact ((unhide X6).1.keep hb8' (by omega)).all (by omega)) (by exact ((unhide X6).2.1.keep hb8' (by omega)).all (by omega)) (by exact ((unhide X6).2.2.keep hb8' (by omega)).all (by omega)) (by exact unhide Z1) (by exact unhide Z2) (by exact unhide Z3)).mono ?_; rintro e w9 ⟨rfl, hb9⟩)))
    all_goals
      have hB9 : Below w6.heap.size w6 w9 := hb8'.trans (hb9.mono (by omega))
      have hz9 := hB9.size
      have RA9 := hide ((unhide RA6).below hB9 (by omega))
      have RX9 := hide ((unhide RX6).below hB9 (by omega))
      have RS9 := hide ((unhide RS6).below hB9 (by omega))
      have RG9 := hide ((unhide RG6).below hB9 (by omega))
      have X9 : Hid (SlW mI 0 w3.heap.size t1 w9 (.slice e1 xs.length f1) xs ∧ SlW mI 0 t1 t2 w9 (.slice e2 ys.length f2) ys ∧ SlW mT false t2 w4'.heap.size w9 (.slice e3 zs.length f3) zs) := ⟨(unhide X6).1.keep hB9 (by omega), (unhide X6).2.1.keep hB9 (by omega), (unhide X6).2.2.keep hB9 (by omega)⟩
      have G9 := hide ((unhide G6).same (w' := w9) (fun k hk => hB9.block k (by have := unhide HTL k hk; omega)))
      have hB39 : Below w3.heap.size w3 w9 := hB36.trans (hB9.mono (by omega))
      have hW9 : Below w.heap.size w w9 := hW6.trans (hB9.mono (by omega))
      clear hb8' hb9 Z1 Z2 Z3 k0 k1 k2 k3 x0 x1 x2 x3 p0 p1' p2' p3'
      obtain ⟨x0, x1, x2, x3, -⟩ := (unhide RX9).facts
      clear hB9 X6 G6 RA6 RX6 RS6 RG6 hB36
      go_wp2_with fail
      refine (markDFA_any _ _ _ xs ys zs nc 1 w3.heap.size t1 t2 w4'.heap.size _ (unhide X9).1 (unhide X9).2.1 (unhide X9).2.2 m1 m2 m3 (by omega) (by omega) (by omega) (by omega) (by omega) (by omega)).mono ?_
      rintro e w10 ⟨rfl, -, -, -, hb10, hs10⟩
      have hz10 := hb10.size
      have hB310 : Below w3.heap.size w3 w10 := hB39.trans hb10
      have hW10 : Below w.heap.size w w10 := hW9.trans (hb10.mono (by omega))
      have hblk : ∀ k, k < w9.heap.size → (k < w3.heap.size ∨ w4'.heap.size ≤ k) → w10.heap[k]? = w9.heap[k]? := fun k h1 h2 => by
        rcases h2 with h2 | h2
        · exact hb10.block k h2
        · exact hs10 k h2 h1
      have G10 := hide ((unhide G9).same (w' := w10) (fun k hk => hblk k (by have := unhide HTL k hk; omega) (.inr (by have := (unhide HT k hk).1; omega))))
      have RA10 := hide ((unhide RA9).below hb10 (by omega))
      have RS10 : Hid (Row4 w10 w3'.heap.size 27 (.slice p1 X.length pc1) (.int .i64 K) (.slice p2 Y.length pc2) (.slice p3 Z.length pc3)) := (unhide RS9).below hb10 (by omega)
      have RG10 : Hid (Row4 w10 w5'.heap.size 27 (.slice g1 X.length gc1) (.int .i64 K) (.slice g2 Y.length gc2) (.slice g3 Z.length gc3)) := World.rowIs.of_block (unhide RG9) (hblk _ (by omega) (.inr (by omega)))
      obtain ⟨K9, hK9⟩ : ∃ K9 : Int, K9 = 1 + xs.length + ys.length + zs.length := ⟨_, rfl⟩
      have hk9 : ¬ K9 < 0 := by omega
      rw [← hK9]
      obtain ⟨y0, y1, y2, y3, -⟩ := (unhide RS10).facts
      obtain ⟨z0, z1, z2, z3, -⟩ := (unhide RG10).facts
      have hE10 : SlAt mI 0 0 w10.heap.size w10 (.slice p1 X.length pc1) X ∧ SlAt mI 0 0 w10.heap.size w10 (.slice p2 Y.length pc2) Y ∧ SlAt mT false 0 w10.heap.size w10 (.slice p3 Z.length pc3) Z := ⟨(unhide S3).1.below hB310 (Nat.le_refl _), (unhide S3).2.1.below hB310 (Nat.le_refl _), (unhide S3).2.2.below hB310 (Nat.le_refl _)⟩
      have HEQ10 := hide (eqDFA_same _ _ _ _ _ _ X Y Z K w10 ((unhide G10).x.at (fun k hk => by have := unhide HTL k (.inl hk); omega)) ((unhide G10).y.at (fun k hk => by have := unhide HTL k (.inr (.inl hk)); omega)) ((unhide G10).z.at (fun k hk => by have := unhide HTL k (.inr (.inr hk)); omega)) hE10.1 hE10.2.1 hE10.2.2)
      clear hb10 hs10 hblk X9 G9 RA9 RX9 RS9 RG9 x0 x1 x2 x3 hB39 hK9 hE10
      go_wp2_with fail
      refine (unhide HEQ10).mono ?_
      rintro e w11 ⟨rfl, hb11⟩
      have hz11 := hb11.size
      have hW11 : Below w.heap.size w w11 := hW10.trans (hb11.mono (by omega))
      have hB311 : Below w3.heap.size w3 w11 := hB310.trans (hb11.mono (by omega))
      have G11 := hide ((unhide G10).same (w' := w11) (fun k hk => hb11.block k (by have := unhide HTL k hk; omega)))
      have RA11 := hide ((unhide RA10).below hb11 (by omega))
      have RS11 := hide ((unhide RS10).below hb11 (by omega))
      have RG11 := hide ((unhide RG10).below hb11 (by omega))
      clear y0 y1 y2 y3 z0 z1 z2 z3 HEQ10
      obtain ⟨z0, z1, z2, z3, -⟩ := (unhide RG11).facts
      clear hb11 G10 RA10 RS10 RG10 hB310
      go_wp2_with fail
      refine (markDFA_w T1 T2 T3 _ _ _ X Y Z K 1 _ (unhide G11) (fun k hk => by have := unhide HTL k hk; omega) (unhide HD1) (unhide HD2) (by omega) (by omega) q1 q2 q3).mono ?_
      rintro e w12 ⟨rfl, hm12, hz12, hfr12, oo1, oo2, oo3⟩
      have hno : ∀ j, j < w4.heap.size ∨ w5'.heap.size ≤ j → j < w11.heap.size → w12.heap[j]? = w11.heap[j]? := fun j h1 h2 => hfr12 j h2 (fun q => by have := unhide HT j (.inl q); omega) (fun q => by have := unhide HT j (.inr (.inl q)); omega) (fun q => by have := unhide HT j (.inr (.inr q)); omega)
      have hb12 : Below w4.heap.size w11 w12 := ⟨oo1, oo2, oo3, hz12, fun k hk => hno k (.inl hk) (by omega)⟩
      have hW12 : Below w.heap.size w w12 := hW11.trans (hb12.mono (by omega))
      have hB312 : Below w3.heap.size w3 w12 := hB311.trans (hb12.mono (by omega))
      have RA12 := hide ((unhide RA11).below hb12 (by omega))
      have RS12 := hide ((unhide RS11).below hb12 (by omega))
      have RG12 : Hid (Row4 w12 w5'.heap.size 27 (.slice g1 X.length gc1) (.int .i64 K) (.slice g2 Y.length gc2) (.slice g3 Z.length gc3)) := World.rowIs.of_block (unhide RG11) (hno _ (.inr (Nat.le_refl _)) (by omega))
      clear z0 z1 z2 z3
      obtain ⟨z0, z1, z2, z3, -⟩ := (unhide RG12).facts
      have hHE := heldDFA_w _ _ _ X.length Y.length Z.length K 1 w12 (hm12.x.at (fun k hk => by have := unhide HTL k (.inl hk); omega)) (hm12.y.at (fun k hk => by have := unhide HTL k (.inr (.inl hk)); omega)) (hm12.z.at (fun k hk => by have := unhide HTL k (.inr (.inr hk)); omega)) (by omega) (by omega) q1 q2 q3
      obtain ⟨KK, hKK⟩ : ∃ KK : Int, KK = (1 : Int) + X.length + Y.length + Z.length := ⟨_, rfl⟩
      have hk2 : ¬ KK < 0 := by omega
      rw [← hKK] at hHE ⊢
      have HHE := hide hHE
      clear hm12 hfr12 hno G11 RA11 RS11 RG11 hb12 hB311 oo1 oo2 oo3 hHE hKK
      go_wp2_with fail
      refine (unhide HHE).mono ?_
      rintro e w13 ⟨rfl, hb13⟩
      have hz13 := hb13.size
      have hW13 : Below w.heap.size w w13 := hW12.trans (hb13.mono (by omega))
      have hB313 : Below w3.heap.size w3 w13 := hB312.trans (hb13.mono (by omega))
      have RA13 := hide ((unhide RA12).below hb13 (by omega))
      have RS13 := hide ((unhide RS12).below hb13 (by omega))
      obtain ⟨k0, k1, k2, k3, -⟩ := (unhide RA13).facts
      clear hb13 RA12 RS12 RG12 HHE z0 z1 z2 z3 hB312
      go_wp2_with fail
      refine (toDFA_c _ _ _ xs ys zs nc _ ((unhide H1).below hW13 (Nat.le_refl _)) ((unhide H2).below hW13 (Nat.le_refl _)) ((unhide H3).below hW13 (Nat.le_refl _)) m1 m2 m3).mono ?_
      rintro e w14 ⟨v1, v2, v3, i1, i2, rfl, n1, n2, n3, hv1, hv2, hv3, hcap, hb14⟩
      obtain ⟨g1', h1', rfl⟩ := hv1.val
      obtain ⟨g2', h2', rfl⟩ := hv2.val
      obtain ⟨g3', h3', rfl⟩ := hv3.val
      have hz14 := hb14.size
      have hW14 : Below w.heap.size w w14 := hW13.trans (hb14.mono (by omega))
      have hB314 : Below w3.heap.size w3 w14 := hB313.trans (hb14.mono (by omega))
      have HMI := hide (implMin_w _ _ _ xs ys zs nc w14 (hv1.all (by omega)) (hv2.all (by omega)) (hv3.all (Nat.le_refl _)) hcap)
      have RS14 := hide ((unhide RS13).below hb14 (by omega))
      clear hv1 hv2 hv3 hb14 RA13 k0 k1 k2 k3 hB313 RS13 hcap n1 n2 n3
      go_wp2_with fail
      refine (unhide HMI).mono ?_
      rintro e w15' ⟨ch, nh, ah, K', X', Y', Z', rfl, hDF, hT, -, -, hans', -, -, -, hb15⟩
      obtain ⟨rfl, rfl, rfl, rfl⟩ := (unhide Hans).one hans'
      have i1 := hDF.x.at (fun k hk => (hT k (.inl hk)).2)
      have i2 := hDF.y.at (fun k hk => (hT k (.inr (.inl hk))).2)
      have i3 := hDF.z.at (fun k hk => (hT k (.inr (.inr hk))).2)
      obtain ⟨m1', mc1, rfl⟩ := hDF.x.val
      obtain ⟨m2', mc2, rfl⟩ := hDF.y.val
      obtain ⟨m3', mc3, rfl⟩ := hDF.z.val
      have hz15 := hb15.size
      obtain ⟨w15, hw15⟩ : ∃ w15, w15 = w15'.alloc (.cells #[.slice m1' X.length mc1, .int .i64 K, .slice m2' Y.length mc2, .slice m3' Z.length mc3] 27) := ⟨_, rfl⟩
      have hV15 : Below w15'.heap.size w15' w15 := by rw [hw15]; exact below1 w15' _
      have hzV := hV15.size
      have hW15 : Below w.heap.size w w15 := (hW14.trans (hb15.mono (by omega))).trans (hV15.mono (by omega))
      have hB315 : Below w3.heap.size w3 w15 := (hB314.trans (hb15.mono (by omega))).trans (hV15.mono (by omega))
      have HE15 := hide (eqDFA_same _ _ _ _ _ _ X Y Z K w15 (i1.below hV15 (Nat.le_refl _)) (i2.below hV15 (Nat.le_refl _)) (i3.below hV15 (Nat.le_refl _)) ((unhide S3).1.below hB315 (Nat.le_refl _)) ((unhide S3).2.1.below hB315 (Nat.le_refl _)) ((unhide S3).2.2.below hB315 (Nat.le_refl _)))
      obtain ⟨y0, y1, y2, y3, -⟩ := (((unhide RS14).below hb15 (by omega)).below hV15 (by omega)).facts
      have hz16 := hW15.size
      have HW15 := hide hw15
      rw [hw15] at y0 y1 y2 y3
      clear hDF i1 i2 i3 hb15 hans' hB314 hT RS14 hV15 hB315 hw15
      go_wp2_with fail
      rw [← unhide HW15]
      refine (unhide HE15).mono ?_
      rintro e w16 ⟨rfl, hb16⟩
      have hW16 : Below w.heap.size w w16 := hW15.trans (hb16.mono hz16)
      clear hb16 y0 y1 y2 y3 HW15
      go_wp2
      go_ret
      exact ⟨rfl, hW16⟩

end Go.Proofs.Ytjmajdfcfcgegaa
