import Derived.Test.YtinhliecfjlocaaGreatZ1
namespace Go.Proofs.YtinhliecfjlocaaGreat
open Go.RowKit
set_option maxHeartbeats 2000000 in
set_option maxRecDepth 100000 in
theorem expandRep_count1 (T : TypeId) (y : Value) (T' : TypeId) (y' : Value) (m M : Nat) (w : World) (h : ExpV (.iface T y) (.iface T' y')) (o2 : m < M) (o3 : M ≤ 250) (o4 : 0 < M) :
    Calls Tryz.prog 83 #[.agg #[.iface T y, .int .i64 m, .int .i64 M]] w fun e w' => e = .returned (jV (partsV (.iface T' y') m M)) ∧ Below w.heap.size w w' := by
  obtain ⟨i0, hi, hz0, hz1, hz2⟩ := info_parts Tryz.info82
  have HE := hide h.2
  clear h
  have hM0 : ((M : Int) == 0) = false := by rw [beq_eq_false_iff_ne]; omega
  have hM1 : ((M : Int) == -1) = false := by rw [beq_eq_false_iff_ne]; omega
  obtain ⟨D, hD⟩ : ∃ D : Nat, (M : Int) - (m : Int) = (D : Int) := ⟨M - m, by omega⟩
  have hw2 : IntKind.i64.wrap ((M : Int) - (m : Int)) = (D : Int) := by rw [IntKind.wrap_i64]; omega
  have hw1 : wrap64 ((M : Int) - (m : Int)) = (D : Int) := by unfold wrap64; omega
  have hDm : Hid (M - m = D) := by show M - m = D; omega
  have hD1 : D ≤ 250 := by omega
  clear hD
  go_enter Tryz.func83, Tryz.ntmps83
  go_wp2_with fail
  refine (unhide HE _).mono ?_
  rintro e w1 ⟨rfl, hb1⟩
  have hB1 : Below w.heap.size w w1 := (below1 w _).trans (hb1.mono (by rw [sz_alloc]; omega))
  obtain ⟨hcc, -⟩ := bcell hb1
  have hz1' := hb1.size
  rw [sz_alloc] at hz1'
  have q0 : w1.cell? ⟨w.heap.size, 0, none⟩ = some (.iface T y) := by rw [hcc _ _ (by rw [sz_alloc]; omega)]; simp
  have q1 : w1.cell? ⟨w.heap.size, 1, none⟩ = some (.int .i64 (m : Int)) := by rw [hcc _ _ (by rw [sz_alloc]; omega)]; simp
  have q2 : w1.cell? ⟨w.heap.size, 2, none⟩ = some (.int .i64 (M : Int)) := by rw [hcc _ _ (by rw [sz_alloc]; omega)]; simp
  have hlt1 : w.heap.size < w1.heap.size := by omega
  clear hb1 hcc
  have hJ : Hid (List.replicate m (.iface T' y') ++ List.replicate D (.iface 134 (.agg #[.iface T' y', .iface 124 (.agg #[])])) = partsV (.iface T' y') m M) := by
    unfold partsV
    rw [if_neg (by omega), show ((m : Int)).toNat = m by omega, show ((M : Int) - (m : Int)).toNat = D by have := unhide hDm; omega]
    rfl
  have hd0 : 0 < D := by have := unhide hDm; omega
  go_wp2_with fail
  go_region_law (((first | (refine step_call_o 107 #[.tmp 36, .tmp 38] _ rfl #[.iface T' y', .int .i64 (m : Int)] rfl (by first | (simp [Act.eval]; done) | simp [Act.eval, Act.put]) (run_copies _ _) (copies_k T' y' (m : Int) m (by omega) _ (by omega)) ?_; rintro e w2 ⟨v2, rfl, hown2, hb2⟩; refine ⟨_, rfl, ?_⟩; have hb2' : Below (w1.heap.size + 1) (w1.alloc (.cells #[.iface T' y', .iface 124 (.agg #[])] 134)) w2 := ⟨hb2.os, hb2.tape, hb2.output, hb2.size, fun k hk => hb2.block k (by simpa using hk)⟩; have hz2' : w1.heap.size + 1 ≤ w2.heap.size := (by have := hb2'.size; rwa [sz_alloc] at this); have c0 : w2.cell? ⟨w1.heap.size, 0, none⟩ = some (.iface T' y') := (by rw [hb2'.cell (p := ⟨w1.heap.size, 0, none⟩) (by show w1.heap.size < w1.heap.size + 1; omega)]; simp); have c1 : w2.cell? ⟨w1.heap.size, 1, none⟩ = some (.iface 124 (.agg #[])) := (by rw [hb2'.cell (p := ⟨w1.heap.size, 1, none⟩) (by show w1.heap.size < w1.heap.size + 1; omega)]; simp); have p1 : w2.cell? ⟨w.heap.size, 1, none⟩ = some (.int .i64 (m : Int)) := (by rw [hb2'.cell (p := ⟨w.heap.size, 1, none⟩) (by show w.heap.size < w1.heap.size + 1; omega), (below1 w1 (.cells #[.iface T' y', .iface 124 (.agg #[])] 134)).cell (p := ⟨w.heap.size, 1, none⟩) hlt1]; exact q1); have p2 : w2.cell? ⟨w.heap.size, 2, none⟩ = some (.int .i64 (M : Int)) := (by rw [hb2'.cell (p := ⟨w.heap.size, 2, none⟩) (by show w.heap.size < w1.heap.size + 1; omega), (below1 w1 (.cells #[.iface T' y', .iface 124 (.agg #[])] 134)).cell (p := ⟨w.heap.size, 2, none⟩) hlt1]; exact q2); have Hown2 : Hid (w2.ownsRow (w1.heap.size + 1) 82 1 v2 m (List.replicate m (.iface T' y'))) := own_base hown2 (sz_alloc w1 (.cells #[.iface T' y', .iface 124 (.agg #[])] 134)); clear hown2 hb2) | (refine step_call_o 107 #[.tmp 41, .tmp 46] _ rfl #[.iface 134 (.agg #[.iface T' y', .iface 124 (.agg #[])]), .int .i64 (D : Int)] rfl (by first | (simp [Act.eval]; done) | simp [Act.eval, Act.put]) (run_copies _ _) (copies_k _ _ (D : Int) D (by omega) w2 (by omega)) ?_; rintro e w3 ⟨v3, rfl, hown3, hb3⟩; refine ⟨_, rfl, ?_⟩; obtain ⟨g3, d3, rfl, hc3⟩ := own_at_g hown3 (by omega); have Hown3 := hide hown3; have Hc3 := hide hc3; have Hown2' := hide (own_keep (unhide Hown2) hb3 (Nat.le_refl _)); have hz3' := hb3.size; clear hown3 hc3) | (refine step_append_lies _ rfl (.tmp 39) (.tmp 47) 120 rfl (w1.heap.size + 1) 82 i0 .nilIface 1 16 Tryz.underlying120 hi hz0 hz1 hz2 rfl (by decide) v2 m (List.replicate m (.iface T' y')) (by first | (simp [Act.eval]; done) | simp [Act.eval, Act.put]) (unhide Hown2') ⟨g3, 0, none⟩ D d3 (List.replicate D (.iface 134 (.agg #[.iface T' y', .iface 124 (.agg #[])]))) (by first | (simp [Act.eval]; done) | simp [Act.eval, Act.put]) (by simp) (fun j u hu => by have e3 : (⟨g3, 0, none⟩ : Addr).add j = ⟨g3, j, none⟩ := (by cases j <;> simp [Addr.add]); rw [e3, unhide Hc3 j (by have := (List.getElem?_eq_some_iff.1 hu).1; simpa using this)]; exact hu) (fun u hu => by rw [(List.mem_replicate.1 hu).2]; rfl) (by omega) (by unfold maxLen; omega) (by omega) (by omega) w3.heap.size rfl (fun g cap' w4 r1 r2 r3 r4 => ?_); have hB4 : Below (w1.heap.size + 1) w3 w4 := ((Below.refl (w1.heap.size + 1) w3).grown r2 (by omega) (fun k hk => ((unhide Hown2').lt k hk).1)); have R1 := hide r1; clear r1 r2 r3 r4) | (refine step_call_o 106 #[.tmp 48] _ rfl #[.slice (some ⟨g, 0, none⟩) (m + D) cap'] rfl (by first | (simp [Act.eval]; done) | simp [Act.eval, Act.put]) (run_join _) (joinParts_l _ _ _ _ w4 (unhide R1) (by omega) (fun u hu => by rcases List.mem_append.1 hu with hu | hu; exact ⟨_, _, (List.mem_replicate.1 hu).2⟩; exact ⟨_, _, (List.mem_replicate.1 hu).2⟩) (by omega)) ?_; rintro e w5 ⟨rfl, rfl⟩; refine ⟨_, rfl, ?_⟩))))
  all_goals
    go_wp2
    go_ret
    exact ⟨congrArg (fun l => Ending.returned (jV l)) (unhide hJ), hB1.trans (((below1 w1 _).mono (by omega)).trans ((hb2'.mono (by omega)).trans ((hb3.mono (by omega)).trans (hB4.mono (by omega)))))⟩
end Go.Proofs.YtinhliecfjlocaaGreat
