import Derived.Test.YtgedhbnmejlmeaaA2
import Derived.Test.YtgedhbnmejlmeaaA4
import Derived.Test.YtgedhbnmejlmeaaA5
import Derived.Test.YtgedhbnmejlmeaaC6
import Derived.Test.YtgedhbnmejlmeaaE5
namespace Go.Proofs.Ytgedhbnmejlmeaa
open Go.RowKit

theorem bulk_ge (xs : List El) : ∀ i : Nat, (xs[i]?.getD dE).set.length ≤ bulk xs := by
  induction xs with
  | nil => intro i; simp [bulk, dE]
  | cons x r ih =>
    intro i
    cases i with
    | zero => simp [bulk]
    | succ i => have := ih i; simp only [List.getElem?_cons_succ, bulk]; omega

def Box3 (w : World) (N : Nat) (c0 c1 c2 : Value) : Prop := w.cell? ⟨N, 0, none⟩ = some c0 ∧ w.cell? ⟨N, 1, none⟩ = some c1 ∧ w.cell? ⟨N, 2, none⟩ = some c2
theorem Box3.below {w w' : World} {N m : Nat} {c0 c1 c2 : Value} (h : Box3 w N c0 c1 c2) (hb : Below m w w') (hm : N < m) : Box3 w' N c0 c1 c2 :=
  ⟨by rw [hb.cell (p := ⟨N, 0, none⟩) hm]; exact h.1, by rw [hb.cell (p := ⟨N, 1, none⟩) hm]; exact h.2.1, by rw [hb.cell (p := ⟨N, 2, none⟩) hm]; exact h.2.2⟩
theorem Box3.new (w : World) (c0 c1 c2 : Value) (t : TypeId) : Box3 (w.alloc (.cells #[c0, c1, c2] t)) w.heap.size c0 c1 c2 := ⟨by simp, by simp, by simp⟩

set_option maxHeartbeats 2000000 in
set_option maxRecDepth 100000 in
theorem lawValid_any (l r : Bool) (v : Value) (xs : List El) (w : World) (hv : ElsAt 0 w.heap.size w v xs) :
    Calls Try.prog 3 #[.agg #[.bool l, .bool r, v]] w fun e w' => e = .returned (.bool true) ∧ Below w.heap.size w w' := by
  obtain ⟨a, cp, rfl, -, -⟩ := id hv
  have Hv := hide hv
  clear hv
  go_enter Try.func3, Try.ntmps3
  go_wp2_with fail
  refine (szPattern_any l r _ xs _ (by exact (unhide Hv).below (below1 w _) (Nat.le_refl _))).mono ?_
  rintro e w1 ⟨⟨q, rfl, hq⟩, hb1⟩
  have hz1 := hb1.size
  simp only [sz_alloc] at hz1
  have hB1 : Below w.heap.size w w1 := (below1 w _).trans (hb1.mono (by rw [sz_alloc]; omega))
  have bx1 : Box3 w1 w.heap.size (.bool l) (.bool r) (.slice a xs.length cp) := (Box3.new w _ _ _ 24).below hb1 (by rw [sz_alloc]; omega)
  clear hb1
  rcases hq with rfl | ⟨hq0, hq1⟩
  · go_wp2
    go_ret
    exact ⟨rfl, hB1⟩
  · have hlen : xs.length ≤ 1048576 := by omega
    have hset : ∀ i : Nat, (xs[i]?.getD dE).set.length ≤ 1048576 := fun i => by have := bulk_ge xs i; omega
    have Hset := hide hset
    have Bx1 := hide bx1
    obtain ⟨k0, k1, k2⟩ := bx1
    clear hq1 hset
    go_wp2_with fail
    refine (toPattern_any l r _ xs _ ((unhide Hv).below hB1 (Nat.le_refl _)) hlen (unhide Hset)).mono ?_
    rintro e w2 ⟨v1, rfl, hv1, hb2⟩
    clear k0 k1 k2
    obtain ⟨a1, cp1, rfl, -, -⟩ := id hv1
    go_wp2_with fail
    refine (specValid_any l r _ xs _ (hv1.mono (Nat.zero_le _) (Nat.le_refl _))).mono ?_
    rintro e w3 ⟨hret, hb3⟩
    have hz2 := hb2.size
    have hz3 := hb3.size
    have hB3 : Below w.heap.size w w3 := hB1.trans ((hb2.mono (by omega)).trans (hb3.mono (by omega)))
    have bx3 := ((unhide Bx1).below hb2 (by omega)).below hb3 (by omega)
    clear hb2 hb3 Bx1 hv1
    have Bx3 := hide bx3
    obtain ⟨k0, k1, k2⟩ := bx3
    obtain ⟨b1, rfl, hb1iff⟩ := hret
    have Hret := hide hb1iff
    clear hb1iff
    go_wp2_with fail
    refine (toPattern_any l r _ xs _ ((unhide Hv).below hB3 (Nat.le_refl _)) hlen (unhide Hset)).mono ?_
    rintro e w4 ⟨v2, rfl, hv2, hb4⟩
    clear k0 k1 k2
    obtain ⟨a2, cp2, rfl, -, -⟩ := id hv2
    have hz4 := hb4.size
    have Hv2 := hide (hv2.mono (Nat.zero_le _) (Nat.le_refl _))
    have hB4 : Below w.heap.size w w4 := hB3.trans (hb4.mono (by omega))
    have Bx4 := hide ((unhide Bx3).below hb4 (by omega))
    clear hv2 hb4 Bx3
    go_wp2_with fail
    refine (implValid_any l r _ xs _ (by exact (unhide Hv2).below (below1 w4 _) (Nat.le_refl _))).mono ?_
    rintro e w6 ⟨hret2, hb6⟩
    have hz6 := hb6.size
    rw [sz_alloc] at hz6
    have hB46 : Below w4.heap.size w4 w6 := (below1 w4 _).trans (hb6.mono (by rw [sz_alloc]; omega))
    have hB6 : Below w.heap.size w w6 := hB4.trans (hB46.mono (by omega))
    have Hv6 := hide ((unhide Hv2).below hB46 (Nat.le_refl _))
    have bxA : Box3 w6 w.heap.size (.bool l) (.bool r) (.slice a xs.length cp) := (unhide Bx4).below hB46 (by omega)
    have bxX : Box3 w6 w4.heap.size (.bool l) (.bool r) (.slice a2 xs.length cp2) := (Box3.new w4 _ _ _ 29).below hb6 (by rw [sz_alloc]; omega)
    have BxX := hide bxX
    obtain ⟨b2, rfl, hb2iff⟩ := hret2
    have hbb : b2 = b1 := by
      have h1 := unhide Hret
      cases b1 <;> cases b2 <;> simp_all
    subst hbb
    clear hb2iff Hret hb6 Bx4 Hv2 hB46
    obtain ⟨k0, k1, k2⟩ := bxA
    obtain ⟨x0, x1, x2⟩ := bxX
    have hwx : w.heap.size ≤ w4.heap.size := hB4.size
    cases b2
    all_goals
      go_wp2
      go_region_with ((first | (go_at_call 8; refine (toPattern_any l r _ xs _ (by exact (unhide Hv).below hB6.drew (Nat.le_refl _)) hlen (unhide Hset)).mono ?_; rintro e w7 ⟨v3, rfl, hv3, hb7⟩; have hb7' : Below w6.heap.size w6 w7 := ⟨hb7.os, hb7.tape, hb7.output, hb7.size, hb7.block⟩; clear hb7; have hv3' := hide (hv3.mono (Nat.zero_le _) (Nat.le_refl _)); obtain ⟨a3, cp3, rfl, -, -⟩ := id hv3; clear hv3; obtain ⟨y0, y1, y2⟩ := (unhide BxX).below hb7' (by omega)) | (go_at_call 10; refine (eqPattern_same l r _ _ xs _ (by exact (unhide Hv6).below hb7' (Nat.le_refl _)) (by exact unhide hv3')).mono ?_; rintro e w8 ⟨rfl, hb8⟩)))
      all_goals
        have hz7 := hb7'.size
        have hB8 : Below w.heap.size w w8 := hB6.trans ((hb7'.mono (by omega)).trans (hb8.mono (by omega)))
        clear hb7' hb8 k0 k1 k2 x0 x1 x2 y0 y1 y2
        go_wp2
        go_ret
        exact ⟨rfl, hB8⟩

end Go.Proofs.Ytgedhbnmejlmeaa
