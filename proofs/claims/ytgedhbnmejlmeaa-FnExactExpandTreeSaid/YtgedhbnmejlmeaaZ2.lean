import Derived.Test.YtgedhbnmejlmeaaZ1
namespace Go.Proofs.Ytgedhbnmejlmeaa
open Go.RowKit

theorem ta_cc (x : Value) (w : World) : Sem.run Try.prog (Instr.typeAssert (.iface 87 x) 59 87 true) w = .ok (.tuple #[x, .bool true]) w := by kernel_rfl
theorem ta_ac (x : Value) (w : World) : Sem.run Try.prog (Instr.typeAssert (.iface 88 x) 59 87 true) w = .ok (.tuple #[.agg #[.nilIface, .nilIface], .bool false]) w := by kernel_rfl
theorem ta_aa (x : Value) (w : World) : Sem.run Try.prog (Instr.typeAssert (.iface 88 x) 59 88 true) w = .ok (.tuple #[x, .bool true]) w := by kernel_rfl
theorem ta_rc (x : Value) (w : World) : Sem.run Try.prog (Instr.typeAssert (.iface 90 x) 59 87 true) w = .ok (.tuple #[.agg #[.nilIface, .nilIface], .bool false]) w := by kernel_rfl
theorem ta_ra (x : Value) (w : World) : Sem.run Try.prog (Instr.typeAssert (.iface 90 x) 59 88 true) w = .ok (.tuple #[.agg #[.nilIface, .nilIface], .bool false]) w := by kernel_rfl
theorem ta_rr (x : Value) (w : World) : Sem.run Try.prog (Instr.typeAssert (.iface 90 x) 59 90 true) w = .ok (.tuple #[x, .bool true]) w := by kernel_rfl
theorem ta_ec (w : World) : Sem.run Try.prog (Instr.typeAssert (.iface 96 (.agg #[])) 59 87 true) w = .ok (.tuple #[.agg #[.nilIface, .nilIface], .bool false]) w := by kernel_rfl
theorem ta_ea (w : World) : Sem.run Try.prog (Instr.typeAssert (.iface 96 (.agg #[])) 59 88 true) w = .ok (.tuple #[.agg #[.nilIface, .nilIface], .bool false]) w := by kernel_rfl
theorem ta_er (w : World) : Sem.run Try.prog (Instr.typeAssert (.iface 96 (.agg #[])) 59 90 true) w = .ok (.tuple #[.agg #[.nilIface, .int .i64 0, .int .i64 0], .bool false]) w := by kernel_rfl
theorem ta_sc (x : Value) (w : World) : Sem.run Try.prog (Instr.typeAssert (.iface 102 x) 59 87 true) w = .ok (.tuple #[.agg #[.nilIface, .nilIface], .bool false]) w := by kernel_rfl
theorem ta_sa (x : Value) (w : World) : Sem.run Try.prog (Instr.typeAssert (.iface 102 x) 59 88 true) w = .ok (.tuple #[.agg #[.nilIface, .nilIface], .bool false]) w := by kernel_rfl
theorem ta_sr (x : Value) (w : World) : Sem.run Try.prog (Instr.typeAssert (.iface 102 x) 59 90 true) w = .ok (.tuple #[.agg #[.nilIface, .int .i64 0, .int .i64 0], .bool false]) w := by kernel_rfl

end Go.Proofs.Ytgedhbnmejlmeaa
