import Derived.Test.YtfgngdfhejeolaaQ3
import Derived.Laws.EntriesVeiled
namespace Go.Proofs.Ytfgngdfhejeolaa
open Go.RowKit

set_option maxHeartbeats 2000000 in
set_option maxRecDepth 100000 in
theorem implEval_any (u v : Value) (xss : List (List Int)) (ts : List Int) (w : World) (hu : SsAt mI 0 w.heap.size w u xss) (hT : tot xss ≤ 1048576) (hL : xss.length ≤ 1048576) (hv : SlAt mI 0 0 w.heap.size w v ts) (hl : ts.length ≤ 1048576) :
    Calls Try.prog 23 #[.agg #[u], v] w fun e w' => RetB e (EvalP xss ts) ∧ Below w.heap.size w w' := by
  have Hv := hide hv
  have Hu := hide hu
  obtain ⟨a2, cap2, rfl, -, -⟩ := hv
  obtain ⟨a, cap, rfl, -, -⟩ := hu
  go_enter Try.func23, Try.ntmps23
  go_wp2_with fail
  refine (clone_any _ ts _ ((unhide Hv).below (below1 w _) (Nat.le_refl _)) hl).mono ?_
  rintro e w1 ⟨v1, rfl, hown1, hb1⟩
  have hz1 := hb1.size
  rw [sz_alloc] at hz1 hown1
  have Hown1 := hide hown1
  obtain ⟨oa1, oc1, rfl⟩ := own_is hown1
  have hbq : Boxed w1 w.heap.size 35 (.slice a xss.length cap) := (hb1.block w.heap.size (by rw [sz_alloc]; omega)).trans (Boxed.new w _ _)
  have hB1 : Below w.heap.size w w1 := (below1 w _).trans (hb1.mono (by rw [sz_alloc]; omega))
  clear hown1 hb1 Hv
  go_wp2_with fail
  refine (ascending_any (w.heap.size + 1) _ ts _ (unhide Hown1) hz1 (by omega)).mono ?_
  rintro e w2 ⟨v2, ks, rfl, ho, hle, hown2, hb2, -⟩
  have hz2 := hb2.size
  have Hown2 := hide hown2
  have HO := hide ho
  obtain ⟨oa2, oc2, rfl⟩ := own_is hown2
  have hbq2 : Boxed w2 w.heap.size 35 (.slice a xss.length cap) := (hb2.block w.heap.size (by omega)).trans hbq
  have hB2 : Below w.heap.size w w2 := hB1.trans (hb2.mono (by omega))
  have hcq : ∀ o1 o2 : Obj, ((w2.alloc o1).alloc o2).cell? ⟨w.heap.size, 0, none⟩ = some (.slice a xss.length cap) := fun o1 o2 => ((hbq2.alloc o1).alloc o2).cell
  clear hown2 hb2 ho hbq
  go_wp2_with fail
  have hB4 : Below w2.heap.size w2 ((w2.alloc (.cells #[.slice oa2 ks.length oc2] 23)).alloc (.cells #[.func (.func 42) #[] #[.pointer (some ⟨w2.heap.size, 0, none⟩), .pointer (some ⟨w2.heap.size + 1, 0, none⟩)]] 48)) := below2 w2 _ _
  have hB5 := hB2.trans (hB4.mono hB2.size)
  have bK := (Boxed.new w2 23 (.slice oa2 ks.length oc2)).alloc (.cells #[.func (.func 42) #[] #[.pointer (some ⟨w2.heap.size, 0, none⟩), .pointer (some ⟨w2.heap.size + 1, 0, none⟩)]] 48)
  have bI := Boxed.new (w2.alloc (.cells #[.slice oa2 ks.length oc2] 23)) 48 (.func (.func 42) #[] #[.pointer (some ⟨w2.heap.size, 0, none⟩), .pointer (some ⟨w2.heap.size + 1, 0, none⟩)])
  rw [World.size_alloc] at bI
  refine (isTrue_any w2.heap.size (w2.heap.size + 1) _ ks ts (unhide HO) xss.length _ xss _ (Nat.le_refl _) hT hL ((unhide Hu).below hB5 (Nat.le_refl _)) ⟨bK, _, bI⟩ (((own_slw (lo := 0) (unhide Hown2) (Nat.zero_le _) (by unfold maxLen; omega)).at).below hB4 (Nat.le_refl _)) (own_cap (unhide Hown2))).mono ?_
  rintro e w3 ⟨⟨r, rfl, hr⟩, hb3⟩
  have Hr := hide hr
  clear hr bK bI
  go_wp2
  go_ret
  exact ⟨⟨r, rfl, unhide Hr⟩, hB5.trans (hb3.mono (by have := hB5.size; omega))⟩

end Go.Proofs.Ytfgngdfhejeolaa
