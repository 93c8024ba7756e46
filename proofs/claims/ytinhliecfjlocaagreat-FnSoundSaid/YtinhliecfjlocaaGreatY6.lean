import Derived.Test.YtinhliecfjlocaaGreatZ1
namespace Go.Proofs.YtinhliecfjlocaaGreat
open Go.RowKit
set_option maxHeartbeats 1000000 in
theorem copies_zero (T : TypeId) (y : Value) (w : World) :
    Calls Tryz.prog 107 #[.iface T y, .int .i64 0] w fun e w' => e = .returned (.slice none 0 0) ∧ w' = w := by
  go_enter Tryz.func107, Tryz.ntmps107
  go_wp2
  go_loop [5, 7] (fun ov i => ov = .slice none 0 0 ∧ i = .int .i64 0) (fun _ _ => 0)
  case atStart => exact ⟨rfl, rfl⟩
  case round =>
    obtain ⟨rfl, rfl⟩ := hrel
    go_wp2
    go_ret
    exact ⟨rfl, rfl⟩
theorem step_append_none_c {w : World} {ops : Array Oper} {o : Oper} {a : Act} {K : Act → World → Prop} {Q : Exit → Act → World → Prop} {E : Prop} (hgd : o.guard = none) (s x : Operand) (t : TypeId)
    (ho : o.op = .call { callee := .builtin .append, args := #[s, x], argTypes := #[t, t] })
    (base : Nat) (e : TypeId) (i : TypeInfo) (size : Nat) (ht : Tryz.prog.underlying t = some (.slice e)) (hi : Tryz.prog.info? e = some i)
    (v : Value) (n : Nat) (xs : List Value) (hs : a.eval s = v) (hown : w.ownsRow base e size v n xs) (c : Nat) (hx : a.eval x = .slice none 0 c)
    (h : K (a.put o.dst v) w) : if Region.wanted o (yielded ops a.tmps) = true then Oper.wp Tryz.prog o a w K Q else E := by
  have hw : Region.wanted o (yielded ops a.tmps) = true := by simp [Region.wanted, hgd]
  rw [if_pos hw]
  have hrun := run_append_none_c (P := Tryz.prog) (w := w) base t o.type e i size ht hi v n xs hown c
  unfold Oper.wp
  simp [execOp, ho, resolve, invoke, builtin, hs, hx, hrun, Result.andThen]
  exact h
set_option maxHeartbeats 2000000 in
set_option maxRecDepth 100000 in
theorem expandRep_count0 (T : TypeId) (y : Value) (T' : TypeId) (y' : Value) (m M : Nat) (w : World) (h : ExpV (.iface T y) (.iface T' y')) (o2 : m = M) (o3 : M ≤ 250) (o4 : 0 < M) :
    Calls Tryz.prog 83 #[.agg #[.iface T y, .int .i64 m, .int .i64 M]] w fun e w' => e = .returned (jV (partsV (.iface T' y') m M)) ∧ Below w.heap.size w w' := by
  subst o2
  obtain ⟨i0, hi, hz0, hz1, hz2⟩ := info_parts Tryz.info82
  have HE := hide h.2
  clear h
  have hM0 : ((m : Int) == 0) = false := by rw [beq_eq_false_iff_ne]; omega
  have hM1 : ((m : Int) == -1) = false := by rw [beq_eq_false_iff_ne]; omega
  obtain ⟨D, hD⟩ : ∃ D : Nat, (m : Int) - (m : Int) = (D : Int) := ⟨m - m, by omega⟩
  have hw2 : IntKind.i64.wrap ((m : Int) - (m : Int)) = (D : Int) := by rw [IntKind.wrap_i64]; omega
  have hw1 : wrap64 ((m : Int) - (m : Int)) = (D : Int) := by unfold wrap64; omega
  have hDm : Hid (m - m = D) := by show m - m = D; omega
  have hD1 : D ≤ 250 := by omega
  clear hD
  go_enter Tryz.func83, Tryz.ntmps83
  go_wp2_with fail
  refine (unhide HE _).mono ?_
  rintro e w1 ⟨rfl, hb1⟩
  have hB1 : Below w.heap.size w w1 := (below1 w _).trans (hb1.mono (by rw [sz_alloc]; omega))
  obtain ⟨hcc, -⟩ := bcell hb1
  have hz1' := hb1.size
  rw [sz_alloc] at hz1'
  have q0 : w1.cell? ⟨w.heap.size, 0, none⟩ = some (.iface T y) := by rw [hcc _ _ (by rw [sz_alloc]; omega)]; simp
  have q1 : w1.cell? ⟨w.heap.size, 1, none⟩ = some (.int .i64 (m : Int)) := by rw [hcc _ _ (by rw [sz_alloc]; omega)]; simp
  have q2 : w1.cell? ⟨w.heap.size, 2, none⟩ = some (.int .i64 (m : Int)) := by rw [hcc _ _ (by rw [sz_alloc]; omega)]; simp
  have hlt1 : w.heap.size < w1.heap.size := by omega
  clear hb1 hcc
  have hJ : Hid (List.replicate m (.iface T' y') ++ List.replicate D (.iface 134 (.agg #[.iface T' y', .iface 124 (.agg #[])])) = partsV (.iface T' y') m m) := by
    unfold partsV
    rw [if_neg (by omega), show ((m : Int)).toNat = m by omega, show ((m : Int) - (m : Int)).toNat = D by have := unhide hDm; omega]
    rfl
  obtain rfl : D = 0 := by have := unhide hDm; omega
  have hm0 : 0 < m := by omega
  have hw0 : IntKind.i64.wrap 0 = 0 := by rw [IntKind.wrap_i64]; omega
  go_wp2_with fail
  go_region_law (((first | (refine step_call_o 107 #[.tmp 36, .tmp 38] _ rfl #[.iface T' y', .int .i64 (m : Int)] rfl (by first | (simp [Act.eval]; done) | simp [Act.eval, Act.put]) (run_copies _ _) (copies_k T' y' (m : Int) m (by omega) _ (by omega)) ?_; rintro e w2 ⟨v2, rfl, hown2, hb2⟩; refine ⟨_, rfl, ?_⟩; have hb2' : Below (w1.heap.size + 1) (w1.alloc (.cells #[.iface T' y', .iface 124 (.agg #[])] 134)) w2 := ⟨hb2.os, hb2.tape, hb2.output, hb2.size, fun k hk => hb2.block k (by simpa using hk)⟩; have hz2' : w1.heap.size + 1 ≤ w2.heap.size := (by have := hb2'.size; rwa [sz_alloc] at this); have c0 : w2.cell? ⟨w1.heap.size, 0, none⟩ = some (.iface T' y') := (by rw [hb2'.cell (p := ⟨w1.heap.size, 0, none⟩) (by show w1.heap.size < w1.heap.size + 1; omega)]; simp); have c1 : w2.cell? ⟨w1.heap.size, 1, none⟩ = some (.iface 124 (.agg #[])) := (by rw [hb2'.cell (p := ⟨w1.heap.size, 1, none⟩) (by show w1.heap.size < w1.heap.size + 1; omega)]; simp); have p1 : w2.cell? ⟨w.heap.size, 1, none⟩ = some (.int .i64 (m : Int)) := (by rw [hb2'.cell (p := ⟨w.heap.size, 1, none⟩) (by show w.heap.size < w1.heap.size + 1; omega), (below1 w1 (.cells #[.iface T' y', .iface 124 (.agg #[])] 134)).cell (p := ⟨w.heap.size, 1, none⟩) hlt1]; exact q1); have p2 : w2.cell? ⟨w.heap.size, 2, none⟩ = some (.int .i64 (m : Int)) := (by rw [hb2'.cell (p := ⟨w.heap.size, 2, none⟩) (by show w.heap.size < w1.heap.size + 1; omega), (below1 w1 (.cells #[.iface T' y', .iface 124 (.agg #[])] 134)).cell (p := ⟨w.heap.size, 2, none⟩) hlt1]; exact q2); have Hown2 : Hid (w2.ownsRow (w1.heap.size + 1) 82 1 v2 m (List.replicate m (.iface T' y'))) := own_base hown2 (sz_alloc w1 (.cells #[.iface T' y', .iface 124 (.agg #[])] 134)); clear hown2 hb2) | (refine step_call_o 107 #[.tmp 41, .tmp 46] _ rfl #[.iface 134 (.agg #[.iface T' y', .iface 124 (.agg #[])]), .int .i64 0] rfl (by first | (simp [Act.eval]; done) | simp [Act.eval, Act.put]) (run_copies _ _) (copies_zero _ _ _) ?_; rintro e w3 ⟨rfl, rfl⟩; refine ⟨_, rfl, ?_⟩) | (refine step_append_none_c rfl (.tmp 39) (.tmp 47) 120 rfl (w1.heap.size + 1) 82 i0 1 Tryz.underlying120 hi v2 m (List.replicate m (.iface T' y')) (by first | (simp [Act.eval]; done) | simp [Act.eval, Act.put]) (by exact unhide Hown2) 0 (by first | (simp [Act.eval]; done) | simp [Act.eval, Act.put]) ?_) | (refine step_call_o 106 #[.tmp 48] _ rfl #[v2] rfl (by first | (simp [Act.eval]; done) | simp [Act.eval, Act.put]) (run_join _) (joinParts_l _ m _ _ _ (unhide Hown2) (by omega) (fun u hu => ⟨_, _, (List.mem_replicate.1 hu).2⟩) (by omega)) ?_; rintro e w4 ⟨rfl, rfl⟩; refine ⟨_, rfl, ?_⟩))))
  all_goals
    go_wp2
    go_ret
    exact ⟨congrArg (fun l => Ending.returned (jV l)) (by rw [← unhide hJ]; simp), hB1.trans (((below1 w1 _).mono (by omega)).trans (hb2'.mono (by omega)))⟩
end Go.Proofs.YtinhliecfjlocaaGreat
