import Derived.Test.YtinhliecfjlocaaGreatPk3
import Derived.Deep.RegionWith
namespace Go.Proofs.YtinhliecfjlocaaGreat
open Go.RowKit
set_option maxHeartbeats 400000 in
theorem cappedSize_any (n : Int) (w : World) : Calls Tryz.prog 172 #[.int .i64 n] w fun e w' => e = .returned (.int .i64 (cap n)) ∧ w' = w := by
  go_enter Tryz.func172, Tryz.ntmps172
  go_wp2
  all_goals
    go_ret
    exact ⟨ret_int (by unfold cap; split <;> omega), rfl⟩
def SizeAs (u : Value) (n : Int) : Prop := ∃ (T : TypeId) (x : Value) (F : FuncId), u = .iface T x ∧
  (∀ w, Sem.run Tryz.prog (method 310 T x "loop.example/s0027/impl.size") w = .ok (F, x) w) ∧ (∀ w, Sem.run Tryz.prog (callFunc F #[x]) w = .ok (.enter F #[x]) w) ∧
  ∀ w, Calls Tryz.prog F #[x] w fun e w' => e = .returned (.int .i64 n) ∧ Below w.heap.size w w'
set_option maxHeartbeats 400000 in
set_option maxRecDepth 100000 in
theorem catSize_any (a b : Int) (u v : Value) (w : World) (hu : SizeAs u a) (hv : SizeAs v b) (a0 : 0 ≤ a) (a1 : a ≤ 501) (b0 : 0 ≤ b) (b1 : b ≤ 501) : Calls Tryz.prog 171 #[.agg #[u, v]] w fun e w' => e = .returned (.int .i64 (cap (a + b))) ∧ Below w.heap.size w w' := by
  obtain ⟨T, x, F, rfl, hm, hcf, hF⟩ := hu
  obtain ⟨T', x', F', rfl, hm', hcf', hF'⟩ := hv
  have hw2 : IntKind.i64.wrap (a + b) = a + b := by rw [IntKind.wrap_i64]; omega
  have hw1 : wrap64 (a + b) = a + b := by unfold wrap64; omega
  have HF := hide hF
  have HG := hide hF'
  clear hF hF'
  go_enter Tryz.func171, Tryz.ntmps171
  go_wp2
  go_region_with ((first | ((with_reducible refine (unhide HF _).mono ?_); rintro e w1 ⟨rfl, hb1⟩; have hb1' : Below (w.heap.size + 1) (w.alloc (.cells #[.iface T x, .iface T' x'] 132)) w1 := ⟨hb1.os, hb1.tape, hb1.output, hb1.size, fun k hk => hb1.block k (by simpa using hk)⟩; have hc1 := (bcell hb1').1; clear hb1) | ((with_reducible refine (unhide HG _).mono ?_); rintro e w2 ⟨rfl, hb2⟩) | (go_at_call 172; refine (cappedSize_any _ _).mono ?_; rintro e w3 ⟨rfl, rfl⟩)))
  all_goals
    have hB1 : Below w.heap.size w w1 := (below1 w _).trans (hb1'.mono (by omega))
    have hB2 : Below w.heap.size w w3 := hB1.trans (hb2.mono hB1.size)
    clear hc1 hb1' hb2
    go_wp2
    go_ret
    exact ⟨rfl, hB2⟩
set_option maxHeartbeats 400000 in
set_option maxRecDepth 100000 in
theorem altSize_any (a b : Int) (u v : Value) (w : World) (hu : SizeAs u a) (hv : SizeAs v b) (a0 : 0 ≤ a) (a1 : a ≤ 501) (b0 : 0 ≤ b) (b1 : b ≤ 501) : Calls Tryz.prog 174 #[.agg #[u, v]] w fun e w' => e = .returned (.int .i64 (cap (a + b))) ∧ Below w.heap.size w w' := by
  obtain ⟨T, x, F, rfl, hm, hcf, hF⟩ := hu
  obtain ⟨T', x', F', rfl, hm', hcf', hF'⟩ := hv
  have hw2 : IntKind.i64.wrap (a + b) = a + b := by rw [IntKind.wrap_i64]; omega
  have hw1 : wrap64 (a + b) = a + b := by unfold wrap64; omega
  have HF := hide hF
  have HG := hide hF'
  clear hF hF'
  go_enter Tryz.func174, Tryz.ntmps174
  go_wp2
  go_region_with ((first | ((with_reducible refine (unhide HF _).mono ?_); rintro e w1 ⟨rfl, hb1⟩; have hb1' : Below (w.heap.size + 1) (w.alloc (.cells #[.iface T x, .iface T' x'] 134)) w1 := ⟨hb1.os, hb1.tape, hb1.output, hb1.size, fun k hk => hb1.block k (by simpa using hk)⟩; have hc1 := (bcell hb1').1; clear hb1) | ((with_reducible refine (unhide HG _).mono ?_); rintro e w2 ⟨rfl, hb2⟩) | (go_at_call 172; refine (cappedSize_any _ _).mono ?_; rintro e w3 ⟨rfl, rfl⟩)))
  all_goals
    have hB1 : Below w.heap.size w w1 := (below1 w _).trans (hb1'.mono (by omega))
    have hB2 : Below w.heap.size w w3 := hB1.trans (hb2.mono hB1.size)
    clear hc1 hb1' hb2
    go_wp2
    go_ret
    exact ⟨rfl, hB2⟩
end Go.Proofs.YtinhliecfjlocaaGreat
