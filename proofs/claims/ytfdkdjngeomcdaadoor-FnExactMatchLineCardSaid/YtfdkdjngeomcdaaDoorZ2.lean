import Derived.Test.YtfdkdjngeomcdaaDoorZ1
namespace Go.Proofs.YtfdkdjngeomcdaaDoor
open Go.RowKit

theorem ta_cc (x : Value) (w : World) : Sem.run Tryd.prog (Instr.typeAssert (.iface 71 x) 40 71 true) w = .ok (.tuple #[x, .bool true]) w := by kernel_rfl
theorem ta_ac (x : Value) (w : World) : Sem.run Tryd.prog (Instr.typeAssert (.iface 106 x) 40 71 true) w = .ok (.tuple #[.agg #[.nilIface, .nilIface], .bool false]) w := by kernel_rfl
theorem ta_aa (x : Value) (w : World) : Sem.run Tryd.prog (Instr.typeAssert (.iface 106 x) 40 106 true) w = .ok (.tuple #[x, .bool true]) w := by kernel_rfl
theorem ta_rc (x : Value) (w : World) : Sem.run Tryd.prog (Instr.typeAssert (.iface 69 x) 40 71 true) w = .ok (.tuple #[.agg #[.nilIface, .nilIface], .bool false]) w := by kernel_rfl
theorem ta_ra (x : Value) (w : World) : Sem.run Tryd.prog (Instr.typeAssert (.iface 69 x) 40 106 true) w = .ok (.tuple #[.agg #[.nilIface, .nilIface], .bool false]) w := by kernel_rfl
theorem ta_rr (x : Value) (w : World) : Sem.run Tryd.prog (Instr.typeAssert (.iface 69 x) 40 69 true) w = .ok (.tuple #[x, .bool true]) w := by kernel_rfl
theorem ta_ec (w : World) : Sem.run Tryd.prog (Instr.typeAssert (.iface 125 (.agg #[])) 40 71 true) w = .ok (.tuple #[.agg #[.nilIface, .nilIface], .bool false]) w := by kernel_rfl
theorem ta_ea (w : World) : Sem.run Tryd.prog (Instr.typeAssert (.iface 125 (.agg #[])) 40 106 true) w = .ok (.tuple #[.agg #[.nilIface, .nilIface], .bool false]) w := by kernel_rfl
theorem ta_er (w : World) : Sem.run Tryd.prog (Instr.typeAssert (.iface 125 (.agg #[])) 40 69 true) w = .ok (.tuple #[.agg #[.nilIface, .int .i64 0, .int .i64 0], .bool false]) w := by kernel_rfl
theorem ta_sc (x : Value) (w : World) : Sem.run Tryd.prog (Instr.typeAssert (.iface 67 x) 40 71 true) w = .ok (.tuple #[.agg #[.nilIface, .nilIface], .bool false]) w := by kernel_rfl
theorem ta_sa (x : Value) (w : World) : Sem.run Tryd.prog (Instr.typeAssert (.iface 67 x) 40 106 true) w = .ok (.tuple #[.agg #[.nilIface, .nilIface], .bool false]) w := by kernel_rfl
theorem ta_sr (x : Value) (w : World) : Sem.run Tryd.prog (Instr.typeAssert (.iface 67 x) 40 69 true) w = .ok (.tuple #[.agg #[.nilIface, .int .i64 0, .int .i64 0], .bool false]) w := by kernel_rfl

end Go.Proofs.YtfdkdjngeomcdaaDoor
