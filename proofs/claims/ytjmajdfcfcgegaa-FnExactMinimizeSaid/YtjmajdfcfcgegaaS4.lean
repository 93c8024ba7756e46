import Derived.Test.YtjmajdfcfcgegaaU0
import Derived.Test.YtjmajdfcfcgegaaA1
namespace Go.Proofs.Ytjmajdfcfcgegaa
open Go.RowKit

theorem SameB.put {lo n : Nat} {a w : World} (h : SameB lo n a w) {b o : Nat} (hb : b < lo ∨ n ≤ b) (u : Value) : SameB lo n a (w.setCell ⟨b, o, none⟩ u) :=
  fun k h1 h2 => (Below.heap_setCell _ _ _ _ (by show k ≠ b; omega)).trans (h k h1 h2)

set_option maxHeartbeats 400000 in
theorem szBoolS_any (a : Option Addr) (len cap : Nat) (left : Int) (w : World) (hlen : len ≤ maxLen) (h0 : 0 ≤ left) (h1 : left ≤ 1048576) :
    Calls Try.prog 12 #[.slice a len cap, .int .i64 left] w fun e w' => e = .returned (.int .i64 (szR left len)) ∧ w' = w := by
  unfold maxLen at hlen
  by_cases hlt : left < (len : Int)
  · go_enter Try.func12, Try.ntmps12
    go_wp2
    go_ret
    exact ⟨ret_int (szR_neg hlt).symm, rfl⟩
  · have hlt' : (len : Int) ≤ left := by omega
    go_enter Try.func12, Try.ntmps12
    go_wp2
    go_ret
    exact ⟨ret_int (szR_pos hlt').symm, rfl⟩

set_option maxHeartbeats 400000 in
theorem szDFA_any (a1 a2 a3 : Option Addr) (n1 n2 n3 c1 c2 c3 : Nat) (nc : Int) (w : World) (h1 : n1 ≤ maxLen) (h2 : n2 ≤ maxLen) (h3 : n3 ≤ maxLen) :
    Calls Try.prog 4 #[.agg #[.slice a1 n1 c1, .int .i64 nc, .slice a2 n2 c2, .slice a3 n3 c3], .int .i64 1048576] w fun e w' => (e = .returned (.int .i64 (-1)) ∨ (n1 + n2 + n3 ≤ 1048576 ∧ ∃ r : Int, 0 ≤ r ∧ e = .returned (.int .i64 r))) ∧ Below w.heap.size w w' := by
  by_cases g1 : (1048576 : Int) < (n1 : Int)
  · have e1 := szR_neg g1
    go_enter Try.func4, Try.ntmps4
    go_wp2_with (go_at_call 11; refine (szIntS_any _ _ _ _ _ h1 (by omega) (by omega)).mono ?_; rintro e w' ⟨rfl, rfl⟩)
    go_ret
    exact ⟨Or.inl rfl, below1 w _⟩
  · have e1 := szR_pos (left := 1048576) (n := n1) (by omega)
    by_cases g2 : (1048576 : Int) - n1 < (n2 : Int)
    · have e2 := szR_neg g2
      go_enter Try.func4, Try.ntmps4
      go_wp2_with fail
      refine (szIntS_any _ _ _ _ _ h1 (by omega) (by omega)).mono ?_
      rintro e w' ⟨rfl, hw⟩
      subst hw
      rw [e1]
      go_wp2_with fail
      refine (szIntS_any _ _ _ _ _ h2 (by omega) (by omega)).mono ?_
      rintro e w'' ⟨rfl, hw⟩
      subst hw
      rw [e2]
      go_wp2
      go_ret
      exact ⟨Or.inl rfl, below1 w _⟩
    · have e2 := szR_pos (left := 1048576 - n1) (n := n2) (by omega)
      by_cases g3 : (1048576 : Int) - n1 - n2 < (n3 : Int)
      · have e3 := szR_neg g3
        go_enter Try.func4, Try.ntmps4
        go_wp2_with fail
        refine (szIntS_any _ _ _ _ _ h1 (by omega) (by omega)).mono ?_
        rintro e w' ⟨rfl, hw⟩
        subst hw
        rw [e1]
        go_wp2_with fail
        refine (szIntS_any _ _ _ _ _ h2 (by omega) (by omega)).mono ?_
        rintro e w'' ⟨rfl, hw⟩
        subst hw
        rw [e2]
        go_wp2_with fail
        refine (szBoolS_any _ _ _ _ _ h3 (by omega) (by omega)).mono ?_
        rintro e w''' ⟨rfl, hw⟩
        subst hw
        rw [e3]
        go_wp2
        go_ret
        exact ⟨Or.inl rfl, below1 w _⟩
      · have e3 := szR_pos (left := 1048576 - n1 - n2) (n := n3) (by omega)
        go_enter Try.func4, Try.ntmps4
        go_wp2_with fail
        refine (szIntS_any _ _ _ _ _ h1 (by omega) (by omega)).mono ?_
        rintro e w' ⟨rfl, hw⟩
        subst hw
        rw [e1]
        go_wp2_with fail
        refine (szIntS_any _ _ _ _ _ h2 (by omega) (by omega)).mono ?_
        rintro e w'' ⟨rfl, hw⟩
        subst hw
        rw [e2]
        go_wp2_with fail
        refine (szBoolS_any _ _ _ _ _ h3 (by omega) (by omega)).mono ?_
        rintro e w''' ⟨rfl, hw⟩
        subst hw
        rw [e3]
        go_wp2
        go_ret
        exact ⟨Or.inr ⟨by omega, _, by omega, rfl⟩, below1 w _⟩

/-- A block of four cells. -/
def Row4 (w : World) (b : Nat) (t : TypeId) (c0 c1 c2 c3 : Value) : Prop := w.rowIs b t 4 (fun j => [c0, c1, c2, c3].getD j undef)
theorem Row4.new (w : World) (t : TypeId) (c0 c1 c2 c3 : Value) : Row4 (w.alloc (.cells #[c0, c1, c2, c3] t)) w.heap.size t c0 c1 c2 c3 :=
  World.rowIs_alloc w #[c0, c1, c2, c3] t _ (fun i hi => by
    match i, hi with
    | 0, _ => rfl
    | 1, _ => rfl
    | 2, _ => rfl
    | 3, _ => rfl)
theorem Row4.alloc {w : World} {b : Nat} {t : TypeId} {c0 c1 c2 c3 : Value} (h : Row4 w b t c0 c1 c2 c3) (o : Obj) : Row4 (w.alloc o) b t c0 c1 c2 c3 := World.rowIs.alloc h o
theorem Row4.below {w w' : World} {b m : Nat} {t : TypeId} {c0 c1 c2 c3 : Value} (h : Row4 w b t c0 c1 c2 c3) (hb : Below m w w') (hm : b < m) : Row4 w' b t c0 c1 c2 c3 := World.rowIs.of_block h (hb.block b hm)
theorem Row4.other {w : World} {b b' o : Nat} {t : TypeId} {c0 c1 c2 c3 u : Value} (h : Row4 w b t c0 c1 c2 c3) (hb : b ≠ b') : Row4 (w.setCell ⟨b', o, none⟩ u) b t c0 c1 c2 c3 := World.rowIs.setOther h hb u
theorem Row4.put0 {w : World} {b : Nat} {t : TypeId} {c0 c1 c2 c3 u : Value} (h : Row4 w b t c0 c1 c2 c3) : Row4 (w.setCell ⟨b, 0, none⟩ u) b t u c1 c2 c3 := (World.rowIs.set h 0 u).congr (fun i hi => by
    match i, hi with
    | 0, _ => rfl
    | 1, _ => rfl
    | 2, _ => rfl
    | 3, _ => rfl)
theorem Row4.put1 {w : World} {b : Nat} {t : TypeId} {c0 c1 c2 c3 u : Value} (h : Row4 w b t c0 c1 c2 c3) : Row4 (w.setCell ⟨b, 1, none⟩ u) b t c0 u c2 c3 := (World.rowIs.set h 1 u).congr (fun i hi => by
    match i, hi with
    | 0, _ => rfl
    | 1, _ => rfl
    | 2, _ => rfl
    | 3, _ => rfl)
theorem Row4.put2 {w : World} {b : Nat} {t : TypeId} {c0 c1 c2 c3 u : Value} (h : Row4 w b t c0 c1 c2 c3) : Row4 (w.setCell ⟨b, 2, none⟩ u) b t c0 c1 u c3 := (World.rowIs.set h 2 u).congr (fun i hi => by
    match i, hi with
    | 0, _ => rfl
    | 1, _ => rfl
    | 2, _ => rfl
    | 3, _ => rfl)
/-- What the walk asks of it. -/
theorem Row4.facts {w : World} {b : Nat} {t : TypeId} {c0 c1 c2 c3 : Value} (h : Row4 w b t c0 c1 c2 c3) :
    w.cell? ⟨b, 0, none⟩ = some c0 ∧ w.cell? ⟨b, 1, none⟩ = some c1 ∧ w.cell? ⟨b, 2, none⟩ = some c2 ∧ w.cell? ⟨b, 3, none⟩ = some c3 ∧ w.frozen? ⟨b, 0, none⟩ = false ∧ w.frozen? ⟨b, 1, none⟩ = false ∧ w.frozen? ⟨b, 2, none⟩ = false ∧ w.frozen? ⟨b, 3, none⟩ = false :=
  ⟨World.rowIs.cell h (i := 0) (by omega), World.rowIs.cell h (i := 1) (by omega), World.rowIs.cell h (i := 2) (by omega), World.rowIs.cell h (i := 3) (by omega), World.rowIs.frozen h 0, World.rowIs.frozen h 1, World.rowIs.frozen h 2, World.rowIs.frozen h 3⟩

set_option maxHeartbeats 1000000 in
theorem toDFA_any (cl nx ac : Value) (xs ys : List Int) (zs : List Bool) (nc : Int) (w : World) (h1 : SlAt mI 0 0 w.heap.size w cl xs) (h2 : SlAt mI 0 0 w.heap.size w nx ys) (h3 : SlAt mT false 0 w.heap.size w ac zs)
    (l1 : xs.length ≤ 1048576) (l2 : ys.length ≤ 1048576) (l3 : zs.length ≤ 1048576) :
    Calls Try.prog 6 #[.agg #[cl, .int .i64 nc, nx, ac]] w fun e w' => ∃ cl' nx' ac' s1 s2, e = .returned (.agg #[cl', .int .i64 nc, nx', ac']) ∧ w.heap.size ≤ s1 ∧ s1 ≤ s2 ∧ s2 ≤ w'.heap.size ∧
      SlW mI 0 w.heap.size s1 w' cl' xs ∧ SlW mI 0 s1 s2 w' nx' ys ∧ SlW mT false s2 w'.heap.size w' ac' zs ∧ Below w.heap.size w w' := by
  obtain ⟨a1, c1, rfl, -, -⟩ := id h1
  obtain ⟨a2, c2, rfl, -, -⟩ := id h2
  obtain ⟨a3, c3, rfl, -, -⟩ := id h3
  have H1 := hide h1
  have H2 := hide h2
  have H3 := hide h3
  clear h1 h2 h3
  go_enter Try.func6, Try.ntmps6
  go_wp2_with fail
  refine (toIntS_w _ xs _ (by exact (unhide H1).below (below3 w _ _ _) (Nat.le_refl _)) l1).mono ?_
  rintro e w1 ⟨v1, rfl, hv1, hb1⟩
  have hz1 := hb1.size
  simp only [sz_alloc] at hz1
  obtain ⟨a1', c1', rfl, -, -⟩ := id hv1
  have Hv1 := hide hv1
  have hB1 : Below w.heap.size w w1 := (below3 w _ _ _).trans (hb1.mono (by simp only [sz_alloc]; omega))
  have rA := ((((Row4.new w 25 (.slice a1 xs.length c1) (.int .i64 nc) (.slice a2 ys.length c2) (.slice a3 zs.length c3)).alloc (.cells #[.slice none 0 0, .int .i64 0, .slice none 0 0, .slice none 0 0] 27)).alloc (.cells #[.slice none 0 0, .int .i64 0, .slice none 0 0, .slice none 0 0] 27)).below hb1 (by simp only [sz_alloc]; omega))
  have rB := (((Row4.new (w.alloc (.cells #[.slice a1 xs.length c1, .int .i64 nc, .slice a2 ys.length c2, .slice a3 zs.length c3] 25)) 27 (.slice none 0 0) (.int .i64 0) (.slice none 0 0) (.slice none 0 0)).alloc (.cells #[.slice none 0 0, .int .i64 0, .slice none 0 0, .slice none 0 0] 27)).below hb1 (by simp only [sz_alloc]; omega))
  have rC := ((Row4.new ((w.alloc (.cells #[.slice a1 xs.length c1, .int .i64 nc, .slice a2 ys.length c2, .slice a3 zs.length c3] 25)).alloc (.cells #[.slice none 0 0, .int .i64 0, .slice none 0 0, .slice none 0 0] 27)) 27 (.slice none 0 0) (.int .i64 0) (.slice none 0 0) (.slice none 0 0)).below hb1 (by simp only [sz_alloc]; omega))
  simp only [sz_alloc] at rB rC
  have RA := hide rA
  have RB := hide rB
  have RC := hide rC
  obtain ⟨k0, k1, k2, k3, -⟩ := rA.facts
  obtain ⟨m0, m1, m2, m3, n0, n1, n2, n3⟩ := rC.facts
  clear hv1 hb1 rA rB rC
  go_wp2_with fail
  refine (toIntS_w _ ys _ (by exact ((unhide H2).below (bput (bput hB1 (by omega) _) (by omega) _) (Nat.le_refl _))) l2).mono ?_
  rintro e w2 ⟨v2, rfl, hv2, hb2⟩
  have hz2 := hb2.size
  simp only [sz_put] at hz2
  obtain ⟨a2', c2', rfl, -, -⟩ := id hv2
  rw [sz_put, sz_put] at hv2
  have Hv2 := hide hv2
  have hB2 : Below w.heap.size w w2 := (bput (bput hB1 (by omega) _) (by omega) _).trans (hb2.mono (by simp only [sz_put]; omega))
  have Hv1' := hide ((unhide Hv1).same ((((SameB.refl _ _ _).put (b := w.heap.size + 1 + 1) (Or.inl (by simp only [sz_alloc]; omega)) _).put (b := w.heap.size + 1 + 1) (Or.inl (by simp only [sz_alloc]; omega)) _).trans (SameB.of_below hb2 (by simp only [sz_put]; omega))))
  have rA := (((unhide RA).other (by omega)).other (by omega)).below hb2 (by simp only [sz_put]; omega)
  have rB := (((unhide RB).other (by omega)).other (by omega)).below hb2 (by simp only [sz_put]; omega)
  have rC := (((unhide RC).put0).put1).below hb2 (by simp only [sz_put]; omega)
  clear k0 k1 k2 k3 m0 m1 m2 m3 n0 n1 n2 n3 RA RB RC
  have RA := hide rA
  have RB := hide rB
  have RC := hide rC
  obtain ⟨k0, k1, k2, k3, -⟩ := rA.facts
  obtain ⟨m0, m1, m2, m3, n0, n1, n2, n3⟩ := rC.facts
  clear hv2 hb2 Hv1 rA rB rC
  go_wp2_with fail
  refine (toBoolS_w _ zs _ (by exact ((unhide H3).below (bput hB2 (by omega) _) (Nat.le_refl _))) l3).mono ?_
  rintro e w3 ⟨v3, rfl, hv3, hb3⟩
  have hz3 := hb3.size
  simp only [sz_put] at hz3
  obtain ⟨a3', c3', rfl, -, -⟩ := id hv3
  rw [sz_put] at hv3
  have Hv3 := hide hv3
  have hB3 : Below w.heap.size w w3 := (bput hB2 (by omega) _).trans (hb3.mono (by simp only [sz_put]; omega))
  have Hv1'' := hide ((unhide Hv1').same (((SameB.refl _ _ _).put (b := w.heap.size + 1 + 1) (Or.inl (by simp only [sz_alloc]; omega)) _).trans (SameB.of_below hb3 (by simp only [sz_put]; omega))))
  have Hv2' := hide ((unhide Hv2).same (((SameB.refl _ _ _).put (b := w.heap.size + 1 + 1) (Or.inl (by omega)) _).trans (SameB.of_below hb3 (by simp only [sz_put]; omega))))
  have rB := ((unhide RB).other (by omega)).below hb3 (by simp only [sz_put]; omega)
  have rC := ((unhide RC).put2).below hb3 (by simp only [sz_put]; omega)
  clear k0 k1 k2 k3 m0 m1 m2 m3 n0 n1 n2 n3 RA RB RC
  obtain ⟨k0, k1, k2, k3, q0, q1, q2, q3⟩ := rB.facts
  obtain ⟨m0, m1, m2, m3, n0, n1, n2, n3⟩ := rC.facts
  clear hv3 hb3 Hv1' Hv2 rB rC
  go_wp2
  refine bodyPost_ret (v := .agg #[.slice a1' xs.length c1', .int .i64 nc, .slice a2' ys.length c2', .slice a3' zs.length c3']) (by simp [results, Try.results6, go_sem, k0, k1, k2, k3]) rfl ⟨_, _, _, w1.heap.size, w2.heap.size, rfl, by omega, by omega, by simp only [sz_put]; omega, ?_, ?_, ?_, ?_⟩
  · refine SlW.mono ((unhide Hv1'').same (SameB.put (SameB.put (SameB.put (SameB.put (SameB.put (SameB.refl _ _ _) (Or.inl ?_) _) (Or.inl ?_) _) (Or.inl ?_) _) (Or.inl ?_) _) (Or.inl ?_) _)) (by simp only [sz_alloc]; omega) (Nat.le_refl _) <;> simp only [sz_alloc] <;> omega
  · exact (unhide Hv2').same (SameB.put (SameB.put (SameB.put (SameB.put (SameB.put (SameB.refl _ _ _) (Or.inl (by omega)) _) (Or.inl (by omega)) _) (Or.inl (by omega)) _) (Or.inl (by omega)) _) (Or.inl (by omega)) _)
  · exact SlW.mono ((unhide Hv3).same (SameB.put (SameB.put (SameB.put (SameB.put (SameB.put (SameB.refl _ _ _) (Or.inl (by omega)) _) (Or.inl (by omega)) _) (Or.inl (by omega)) _) (Or.inl (by omega)) _) (Or.inl (by omega)) _)) (Nat.le_refl _) (by simp only [sz_put]; omega)
  · exact bput (bput (bput (bput (bput hB3 (by omega) _) (by omega) _) (by omega) _) (by omega) _) (by omega) _

end Go.Proofs.Ytjmajdfcfcgegaa
