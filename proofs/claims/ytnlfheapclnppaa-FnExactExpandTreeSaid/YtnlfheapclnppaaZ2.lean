import Derived.Test.YtnlfheapclnppaaZ1
namespace Go.Proofs.Ytnlfheapclnppaa
open Go.RowKit

theorem ta_cc (x : Value) (w : World) : Sem.run Try.prog (Instr.typeAssert (.iface 86 x) 59 86 true) w = .ok (.tuple #[x, .bool true]) w := by kernel_rfl
theorem ta_ac (x : Value) (w : World) : Sem.run Try.prog (Instr.typeAssert (.iface 87 x) 59 86 true) w = .ok (.tuple #[.agg #[.nilIface, .nilIface], .bool false]) w := by kernel_rfl
theorem ta_aa (x : Value) (w : World) : Sem.run Try.prog (Instr.typeAssert (.iface 87 x) 59 87 true) w = .ok (.tuple #[x, .bool true]) w := by kernel_rfl
theorem ta_rc (x : Value) (w : World) : Sem.run Try.prog (Instr.typeAssert (.iface 89 x) 59 86 true) w = .ok (.tuple #[.agg #[.nilIface, .nilIface], .bool false]) w := by kernel_rfl
theorem ta_ra (x : Value) (w : World) : Sem.run Try.prog (Instr.typeAssert (.iface 89 x) 59 87 true) w = .ok (.tuple #[.agg #[.nilIface, .nilIface], .bool false]) w := by kernel_rfl
theorem ta_rr (x : Value) (w : World) : Sem.run Try.prog (Instr.typeAssert (.iface 89 x) 59 89 true) w = .ok (.tuple #[x, .bool true]) w := by kernel_rfl
theorem ta_ec (w : World) : Sem.run Try.prog (Instr.typeAssert (.iface 95 (.agg #[])) 59 86 true) w = .ok (.tuple #[.agg #[.nilIface, .nilIface], .bool false]) w := by kernel_rfl
theorem ta_ea (w : World) : Sem.run Try.prog (Instr.typeAssert (.iface 95 (.agg #[])) 59 87 true) w = .ok (.tuple #[.agg #[.nilIface, .nilIface], .bool false]) w := by kernel_rfl
theorem ta_er (w : World) : Sem.run Try.prog (Instr.typeAssert (.iface 95 (.agg #[])) 59 89 true) w = .ok (.tuple #[.agg #[.nilIface, .int .i64 0, .int .i64 0], .bool false]) w := by kernel_rfl
theorem ta_sc (x : Value) (w : World) : Sem.run Try.prog (Instr.typeAssert (.iface 101 x) 59 86 true) w = .ok (.tuple #[.agg #[.nilIface, .nilIface], .bool false]) w := by kernel_rfl
theorem ta_sa (x : Value) (w : World) : Sem.run Try.prog (Instr.typeAssert (.iface 101 x) 59 87 true) w = .ok (.tuple #[.agg #[.nilIface, .nilIface], .bool false]) w := by kernel_rfl
theorem ta_sr (x : Value) (w : World) : Sem.run Try.prog (Instr.typeAssert (.iface 101 x) 59 89 true) w = .ok (.tuple #[.agg #[.nilIface, .int .i64 0, .int .i64 0], .bool false]) w := by kernel_rfl

end Go.Proofs.Ytnlfheapclnppaa
