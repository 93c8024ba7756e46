import Derived.Test.YtmafkoppadminaaZ1
namespace Go.Proofs.Ytmafkoppadminaa
open Go.RowKit
theorem ta_cc (x : Value) (w : World) : Sem.run Try.prog (Instr.typeAssert (.iface 61 x) 42 61 true) w = .ok (.tuple #[x, .bool true]) w := by kernel_rfl
theorem ta_ac (x : Value) (w : World) : Sem.run Try.prog (Instr.typeAssert (.iface 62 x) 42 61 true) w = .ok (.tuple #[.agg #[.nilIface, .nilIface], .bool false]) w := by kernel_rfl
theorem ta_aa (x : Value) (w : World) : Sem.run Try.prog (Instr.typeAssert (.iface 62 x) 42 62 true) w = .ok (.tuple #[x, .bool true]) w := by kernel_rfl
theorem ta_rc (x : Value) (w : World) : Sem.run Try.prog (Instr.typeAssert (.iface 64 x) 42 61 true) w = .ok (.tuple #[.agg #[.nilIface, .nilIface], .bool false]) w := by kernel_rfl
theorem ta_ra (x : Value) (w : World) : Sem.run Try.prog (Instr.typeAssert (.iface 64 x) 42 62 true) w = .ok (.tuple #[.agg #[.nilIface, .nilIface], .bool false]) w := by kernel_rfl
theorem ta_rr (x : Value) (w : World) : Sem.run Try.prog (Instr.typeAssert (.iface 64 x) 42 64 true) w = .ok (.tuple #[x, .bool true]) w := by kernel_rfl
theorem ta_ec (w : World) : Sem.run Try.prog (Instr.typeAssert (.iface 78 (.agg #[])) 42 61 true) w = .ok (.tuple #[.agg #[.nilIface, .nilIface], .bool false]) w := by kernel_rfl
theorem ta_ea (w : World) : Sem.run Try.prog (Instr.typeAssert (.iface 78 (.agg #[])) 42 62 true) w = .ok (.tuple #[.agg #[.nilIface, .nilIface], .bool false]) w := by kernel_rfl
theorem ta_er (w : World) : Sem.run Try.prog (Instr.typeAssert (.iface 78 (.agg #[])) 42 64 true) w = .ok (.tuple #[.agg #[.nilIface, .int .i64 0, .int .i64 0], .bool false]) w := by kernel_rfl
theorem ta_sc (x : Value) (w : World) : Sem.run Try.prog (Instr.typeAssert (.iface 84 x) 42 61 true) w = .ok (.tuple #[.agg #[.nilIface, .nilIface], .bool false]) w := by kernel_rfl
theorem ta_sa (x : Value) (w : World) : Sem.run Try.prog (Instr.typeAssert (.iface 84 x) 42 62 true) w = .ok (.tuple #[.agg #[.nilIface, .nilIface], .bool false]) w := by kernel_rfl
theorem ta_sr (x : Value) (w : World) : Sem.run Try.prog (Instr.typeAssert (.iface 84 x) 42 64 true) w = .ok (.tuple #[.agg #[.nilIface, .int .i64 0, .int .i64 0], .bool false]) w := by kernel_rfl
set_option maxHeartbeats 1000000 in
theorem ExpV.e : ExpV eV eV := by
  refine ⟨⟨_, _, rfl⟩, fun w => ?_⟩
  unfold eV
  have t1 := ta_ec
  have t2 := ta_ea
  have t3 := ta_er
  go_enter Try.func14, Try.ntmps14
  go_wp2
  go_ret
  exact ⟨rfl, Below.refl _ _⟩
set_option maxHeartbeats 1000000 in
theorem ExpV.s (g : Nat → Nat) : ExpV (sV g) (sV g) := by
  refine ⟨⟨_, _, rfl⟩, fun w => ?_⟩
  unfold sV ws4
  have t1 := ta_sc
  have t2 := ta_sa
  have t3 := ta_sr
  go_enter Try.func14, Try.ntmps14
  go_wp2
  go_ret
  exact ⟨rfl, Below.refl _ _⟩
set_option maxHeartbeats 1000000 in
set_option maxRecDepth 100000 in
theorem ExpV.cat {u v U V : Value} (iu : ∃ T x, u = .iface T x) (iv : ∃ T x, v = .iface T x) (hu : ExpV u U) (hv : ExpV v V) : ExpV (cV u v) (cV U V) := by
  refine ⟨⟨_, _, rfl⟩, fun w => ?_⟩
  obtain ⟨T, x, rfl⟩ := iu
  obtain ⟨T', x', rfl⟩ := iv
  obtain ⟨⟨T1, x1, rfl⟩, hu⟩ := hu
  obtain ⟨⟨T2, x2, rfl⟩, hv⟩ := hv
  have HF := hide hu
  have HG := hide hv
  clear hu hv
  unfold cV
  have t1 := ta_cc
  go_enter Try.func14, Try.ntmps14
  go_wp2_with fail
  go_region_with ((first | ((with_reducible refine (unhide HF _).mono ?_); rintro e w1 ⟨rfl, hb1⟩; have hb1' : Below (w.heap.size + 1) (w.alloc (.cells #[.iface T x, .iface T' x'] 61)) w1 := ⟨hb1.os, hb1.tape, hb1.output, hb1.size, fun k hk => hb1.block k (by simpa using hk)⟩; have hc1 := (bcell hb1').1; clear hb1) | ((with_reducible refine (unhide HG _).mono ?_); rintro e w2 ⟨rfl, hb2⟩)))
  all_goals
    have hB1 : Below w.heap.size w w1 := (below1 w _).trans (hb1'.mono (by omega))
    have hB2 : Below w.heap.size w w2 := hB1.trans ⟨hb2.os, hb2.tape, hb2.output, hb2.size, fun k hk => hb2.block k (Nat.lt_of_lt_of_le hk hB1.size)⟩
    clear hc1 hb1' hb2
    go_wp2
    go_ret
    exact ⟨rfl, hB2⟩
set_option maxHeartbeats 1000000 in
set_option maxRecDepth 100000 in
theorem ExpV.alt {u v U V : Value} (iu : ∃ T x, u = .iface T x) (iv : ∃ T x, v = .iface T x) (hu : ExpV u U) (hv : ExpV v V) : ExpV (aV u v) (aV U V) := by
  refine ⟨⟨_, _, rfl⟩, fun w => ?_⟩
  obtain ⟨T, x, rfl⟩ := iu
  obtain ⟨T', x', rfl⟩ := iv
  obtain ⟨⟨T1, x1, rfl⟩, hu⟩ := hu
  obtain ⟨⟨T2, x2, rfl⟩, hv⟩ := hv
  have HF := hide hu
  have HG := hide hv
  clear hu hv
  unfold aV
  have t1 := ta_ac
  have t2 := ta_aa
  go_enter Try.func14, Try.ntmps14
  go_wp2_with fail
  go_region_with ((first | ((with_reducible refine (unhide HF _).mono ?_); rintro e w1 ⟨rfl, hb1⟩; have hb1' : Below (w.heap.size + 1) (w.alloc (.cells #[.iface T x, .iface T' x'] 62)) w1 := ⟨hb1.os, hb1.tape, hb1.output, hb1.size, fun k hk => hb1.block k (by simpa using hk)⟩; have hc1 := (bcell hb1').1; clear hb1) | ((with_reducible refine (unhide HG _).mono ?_); rintro e w2 ⟨rfl, hb2⟩)))
  all_goals
    have hB1 : Below w.heap.size w w1 := (below1 w _).trans (hb1'.mono (by omega))
    have hB2 : Below w.heap.size w w2 := hB1.trans ⟨hb2.os, hb2.tape, hb2.output, hb2.size, fun k hk => hb2.block k (Nat.lt_of_lt_of_le hk hB1.size)⟩
    clear hc1 hb1' hb2
    go_wp2
    go_ret
    exact ⟨rfl, hB2⟩
theorem ExpV.rep0 {u W : Value} {mn mx : Int} (iu : ∃ T x, u = .iface T x) (iw : ∃ T x, W = .iface T x) (h : ∀ w, Calls Try.prog 30 #[.agg #[u, .int .i64 mn, .int .i64 mx]] w fun e w' => e = .returned W ∧ Below w.heap.size w w') : ExpV (rV u mn mx) W := by
  refine ⟨iw, fun w => ?_⟩
  obtain ⟨T, x, rfl⟩ := iu
  have HF := hide h
  clear h
  unfold rV
  have t1 := ta_rc
  have t2 := ta_ra
  have t3 := ta_rr
  go_enter Try.func14, Try.ntmps14
  go_wp2_with fail
  refine (unhide HF _).mono ?_
  rintro e w1 ⟨rfl, hb1⟩
  have hB1 : Below w.heap.size w w1 := (below1 w _).trans (hb1.mono (by rw [sz_alloc]; omega))
  clear hb1
  go_wp2
  go_ret
  exact ⟨rfl, hB1⟩
end Go.Proofs.Ytmafkoppadminaa
