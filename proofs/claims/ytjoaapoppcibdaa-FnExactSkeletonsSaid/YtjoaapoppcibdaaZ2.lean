import Derived.Test.YtjoaapoppcibdaaZ1
namespace Go.Proofs.Ytjoaapoppcibdaa
open Go.RowKit

theorem ta_cc (x : Value) (w : World) : Sem.run Try.prog (Instr.typeAssert (.iface 87 x) 44 87 true) w = .ok (.tuple #[x, .bool true]) w := by kernel_rfl
theorem ta_ac (x : Value) (w : World) : Sem.run Try.prog (Instr.typeAssert (.iface 89 x) 44 87 true) w = .ok (.tuple #[.agg #[.nilIface, .nilIface], .bool false]) w := by kernel_rfl
theorem ta_aa (x : Value) (w : World) : Sem.run Try.prog (Instr.typeAssert (.iface 89 x) 44 89 true) w = .ok (.tuple #[x, .bool true]) w := by kernel_rfl
theorem ta_rc (x : Value) (w : World) : Sem.run Try.prog (Instr.typeAssert (.iface 91 x) 44 87 true) w = .ok (.tuple #[.agg #[.nilIface, .nilIface], .bool false]) w := by kernel_rfl
theorem ta_ra (x : Value) (w : World) : Sem.run Try.prog (Instr.typeAssert (.iface 91 x) 44 89 true) w = .ok (.tuple #[.agg #[.nilIface, .nilIface], .bool false]) w := by kernel_rfl
theorem ta_rr (x : Value) (w : World) : Sem.run Try.prog (Instr.typeAssert (.iface 91 x) 44 91 true) w = .ok (.tuple #[x, .bool true]) w := by kernel_rfl
theorem ta_ec (w : World) : Sem.run Try.prog (Instr.typeAssert (.iface 77 (.agg #[])) 44 87 true) w = .ok (.tuple #[.agg #[.nilIface, .nilIface], .bool false]) w := by kernel_rfl
theorem ta_ea (w : World) : Sem.run Try.prog (Instr.typeAssert (.iface 77 (.agg #[])) 44 89 true) w = .ok (.tuple #[.agg #[.nilIface, .nilIface], .bool false]) w := by kernel_rfl
theorem ta_er (w : World) : Sem.run Try.prog (Instr.typeAssert (.iface 77 (.agg #[])) 44 91 true) w = .ok (.tuple #[.agg #[.nilIface, .int .i64 0, .int .i64 0], .bool false]) w := by kernel_rfl
theorem ta_sc (x : Value) (w : World) : Sem.run Try.prog (Instr.typeAssert (.iface 83 x) 44 87 true) w = .ok (.tuple #[.agg #[.nilIface, .nilIface], .bool false]) w := by kernel_rfl
theorem ta_sa (x : Value) (w : World) : Sem.run Try.prog (Instr.typeAssert (.iface 83 x) 44 89 true) w = .ok (.tuple #[.agg #[.nilIface, .nilIface], .bool false]) w := by kernel_rfl
theorem ta_sr (x : Value) (w : World) : Sem.run Try.prog (Instr.typeAssert (.iface 83 x) 44 91 true) w = .ok (.tuple #[.agg #[.nilIface, .int .i64 0, .int .i64 0], .bool false]) w := by kernel_rfl

end Go.Proofs.Ytjoaapoppcibdaa
