import Derived.Test.YtjmajdfcfcgegaaS4
namespace Go.Proofs.Ytjmajdfcfcgegaa
open Go.RowKit


set_option maxHeartbeats 1000000 in
theorem eqDFA_same (cl nx ac cl' nx' ac' : Value) (xs ys : List Int) (zs : List Bool) (nc : Int) (w : World) (h1 : SlAt mI 0 0 w.heap.size w cl xs) (h2 : SlAt mI 0 0 w.heap.size w nx ys) (h3 : SlAt mT false 0 w.heap.size w ac zs)
    (g1 : SlAt mI 0 0 w.heap.size w cl' xs) (g2 : SlAt mI 0 0 w.heap.size w nx' ys) (g3 : SlAt mT false 0 w.heap.size w ac' zs) :
    Calls Try.prog 8 #[.agg #[cl, .int .i64 nc, nx, ac], .agg #[cl', .int .i64 nc, nx', ac']] w fun e w' => e = .returned (.bool true) ∧ Below w.heap.size w w' := by
  obtain ⟨a1, c1, rfl, -, -⟩ := id h1
  obtain ⟨a2, c2, rfl, -, -⟩ := id h2
  obtain ⟨a3, c3, rfl, -, -⟩ := id h3
  obtain ⟨b1, d1, rfl, -, -⟩ := id g1
  obtain ⟨b2, d2, rfl, -, -⟩ := id g2
  obtain ⟨b3, d3, rfl, -, -⟩ := id g3
  have H1 := hide (h1.below (below2 w (.cells #[.slice a1 xs.length c1, .int .i64 nc, .slice a2 ys.length c2, .slice a3 zs.length c3] 27) (.cells #[.slice b1 xs.length d1, .int .i64 nc, .slice b2 ys.length d2, .slice b3 zs.length d3] 27)) (Nat.le_refl _))
  have H2 := hide (h2.below (below2 w (.cells #[.slice a1 xs.length c1, .int .i64 nc, .slice a2 ys.length c2, .slice a3 zs.length c3] 27) (.cells #[.slice b1 xs.length d1, .int .i64 nc, .slice b2 ys.length d2, .slice b3 zs.length d3] 27)) (Nat.le_refl _))
  have H3 := hide (h3.below (below2 w (.cells #[.slice a1 xs.length c1, .int .i64 nc, .slice a2 ys.length c2, .slice a3 zs.length c3] 27) (.cells #[.slice b1 xs.length d1, .int .i64 nc, .slice b2 ys.length d2, .slice b3 zs.length d3] 27)) (Nat.le_refl _))
  have G1 := hide (g1.below (below2 w (.cells #[.slice a1 xs.length c1, .int .i64 nc, .slice a2 ys.length c2, .slice a3 zs.length c3] 27) (.cells #[.slice b1 xs.length d1, .int .i64 nc, .slice b2 ys.length d2, .slice b3 zs.length d3] 27)) (Nat.le_refl _))
  have G2 := hide (g2.below (below2 w (.cells #[.slice a1 xs.length c1, .int .i64 nc, .slice a2 ys.length c2, .slice a3 zs.length c3] 27) (.cells #[.slice b1 xs.length d1, .int .i64 nc, .slice b2 ys.length d2, .slice b3 zs.length d3] 27)) (Nat.le_refl _))
  have G3 := hide (g3.below (below2 w (.cells #[.slice a1 xs.length c1, .int .i64 nc, .slice a2 ys.length c2, .slice a3 zs.length c3] 27) (.cells #[.slice b1 xs.length d1, .int .i64 nc, .slice b2 ys.length d2, .slice b3 zs.length d3] 27)) (Nat.le_refl _))
  clear h1 h2 h3 g1 g2 g3
  go_enter Try.func8, Try.ntmps8
  go_wp2_with fail
  refine (eqIntS_w _ _ xs _ (unhide H1) (unhide G1)).mono ?_
  rintro e w1 ⟨rfl, n1, hw1⟩
  subst hw1
  go_wp2_with fail
  refine (eqIntS_w _ _ ys _ (by exact (unhide H2).drewN _) (by exact (unhide G2).drewN _)).mono ?_
  rintro e w2 ⟨rfl, n2, hw2⟩
  subst hw2
  go_wp2_with fail
  refine (eqBoolS_w _ _ zs _ (by exact (unhide H3).drewN _) (by exact (unhide G3).drewN _)).mono ?_
  rintro e w3 ⟨rfl, n3, hw3⟩
  subst hw3
  go_wp2
  go_ret
  exact ⟨rfl, below_drewN (below2 w _ _) _⟩

set_option maxHeartbeats 1000000 in
theorem markDFA_any (cl nx ac : Value) (xs ys : List Int) (zs : List Bool) (nc k : Int) (s0 s1 s2 s3 : Nat) (w : World) (h1 : SlW mI 0 s0 s1 w cl xs) (h2 : SlW mI 0 s1 s2 w nx ys) (h3 : SlW mT false s2 s3 w ac zs)
    (l1 : xs.length ≤ 1048576) (l2 : ys.length ≤ 1048576) (l3 : zs.length ≤ 1048576) (k0 : 0 ≤ k) (k1 : k ≤ 1048576) (o1 : s0 ≤ s1) (o2 : s1 ≤ s2) (o3 : s2 ≤ s3) (o4 : s3 ≤ w.heap.size) :
    Calls Try.prog 9 #[.agg #[cl, .int .i64 nc, nx, ac], .int .i64 k] w fun e w' => e = .returned (.int .i64 (k + xs.length + ys.length + zs.length)) ∧
      SlW mI 0 s0 s1 w' cl (cnts k xs.length) ∧ SlW mI 0 s1 s2 w' nx (cnts (k + xs.length) ys.length) ∧ SlW mT false s2 s3 w' ac (cntT (k + xs.length + ys.length) zs.length) ∧
      Below s0 w w' ∧ SameB s3 w.heap.size w w' := by
  obtain ⟨a1, c1, rfl, -, -⟩ := id h1
  obtain ⟨a2, c2, rfl, -, -⟩ := id h2
  obtain ⟨a3, c3, rfl, -, -⟩ := id h3
  have bA := below1 w (.cells #[.slice a1 xs.length c1, .int .i64 nc, .slice a2 ys.length c2, .slice a3 zs.length c3] 27)
  have H1 := hide (h1.same (SameB.of_below bA (by omega)))
  have H2 := hide (h2.same (SameB.of_below bA (by omega)))
  have H3 := hide (h3.same (SameB.of_below bA (by omega)))
  clear h1 h2 h3 bA
  go_enter Try.func9, Try.ntmps9
  go_wp2_with fail
  refine (markIntS_any _ xs k s0 s1 _ (unhide H1) k0 (by omega) (by omega)).mono ?_
  rintro e w1 ⟨rfl, hv1, hch1⟩
  have rA := Row4.new w 27 (.slice a1 xs.length c1) (.int .i64 nc) (.slice a2 ys.length c2) (.slice a3 zs.length c3)
  have rA1 := World.rowIs.of_block rA (hch1.block _ (Or.inr (by omega)))
  have RA1 := hide rA1
  obtain ⟨q0, q1, q2, q3, -⟩ := Row4.facts rA1
  have Hv1 := hide hv1
  have Hch1 := hide hch1
  clear rA rA1 hv1 hch1
  go_wp2_with fail
  refine (markIntS_any _ ys (k + xs.length) s1 s2 _ ((unhide H2).same (SameB.of_chg (unhide Hch1) (Or.inr (Nat.le_refl _)))) (by omega) (by omega) (by omega)).mono ?_
  rintro e w2 ⟨rfl, hv2, hch2⟩
  clear q0 q1 q2 q3
  have rA2 := World.rowIs.of_block (unhide RA1) (hch2.block _ (Or.inr (by omega)))
  obtain ⟨q0, q1, q2, q3, -⟩ := Row4.facts rA2
  have Hv2 := hide hv2
  have Hch2 := hide hch2
  clear rA2 hv2 hch2
  go_wp2_with fail
  refine (markBoolS_any _ zs (k + xs.length + ys.length) s2 s3 _ (((unhide H3).same (SameB.of_chg (unhide Hch1) (Or.inr (by omega)))).same (SameB.of_chg (unhide Hch2) (Or.inr (by omega)))) (by omega) (by omega) (by omega)).mono ?_
  rintro e w3 ⟨rfl, hv3, hch3⟩
  have Hv3 := hide hv3
  have Hch3 := hide hch3
  clear hv3 hch3 q0 q1 q2 q3
  go_wp2
  go_ret
  refine ⟨rfl, ((unhide Hv1).same (SameB.of_chg (unhide Hch2) (Or.inl (Nat.le_refl _)))).same (SameB.of_chg (unhide Hch3) (Or.inl (by omega))), (unhide Hv2).same (SameB.of_chg (unhide Hch3) (Or.inl (Nat.le_refl _))), unhide Hv3, ?_, ?_⟩
  · exact ((((below1 w _).mono (by omega)).trans (unhide Hch1).below).trans ((unhide Hch2).below.mono o1)).trans ((unhide Hch3).below.mono (by omega))
  · exact (((SameB.of_below (below1 w _) (Nat.le_refl _)).trans (SameB.of_chg (unhide Hch1) (Or.inr (by omega)))).trans (SameB.of_chg (unhide Hch2) (Or.inr (by omega)))).trans (SameB.of_chg (unhide Hch3) (Or.inr (Nat.le_refl _)))

end Go.Proofs.Ytjmajdfcfcgegaa
