import Derived.Test.YtjefklagedidmaaGreatZ1
namespace Go.Proofs.YtjefklagedidmaaGreat
open Go.RowKit

theorem ta_cc (x : Value) (w : World) : Sem.run Tryz.prog (Instr.typeAssert (.iface 104 x) 62 104 true) w = .ok (.tuple #[x, .bool true]) w := by kernel_rfl
theorem ta_ac (x : Value) (w : World) : Sem.run Tryz.prog (Instr.typeAssert (.iface 106 x) 62 104 true) w = .ok (.tuple #[.agg #[.nilIface, .nilIface], .bool false]) w := by kernel_rfl
theorem ta_aa (x : Value) (w : World) : Sem.run Tryz.prog (Instr.typeAssert (.iface 106 x) 62 106 true) w = .ok (.tuple #[x, .bool true]) w := by kernel_rfl
theorem ta_rc (x : Value) (w : World) : Sem.run Tryz.prog (Instr.typeAssert (.iface 108 x) 62 104 true) w = .ok (.tuple #[.agg #[.nilIface, .nilIface], .bool false]) w := by kernel_rfl
theorem ta_ra (x : Value) (w : World) : Sem.run Tryz.prog (Instr.typeAssert (.iface 108 x) 62 106 true) w = .ok (.tuple #[.agg #[.nilIface, .nilIface], .bool false]) w := by kernel_rfl
theorem ta_rr (x : Value) (w : World) : Sem.run Tryz.prog (Instr.typeAssert (.iface 108 x) 62 108 true) w = .ok (.tuple #[x, .bool true]) w := by kernel_rfl
theorem ta_ec (w : World) : Sem.run Tryz.prog (Instr.typeAssert (.iface 94 (.agg #[])) 62 104 true) w = .ok (.tuple #[.agg #[.nilIface, .nilIface], .bool false]) w := by kernel_rfl
theorem ta_ea (w : World) : Sem.run Tryz.prog (Instr.typeAssert (.iface 94 (.agg #[])) 62 106 true) w = .ok (.tuple #[.agg #[.nilIface, .nilIface], .bool false]) w := by kernel_rfl
theorem ta_er (w : World) : Sem.run Tryz.prog (Instr.typeAssert (.iface 94 (.agg #[])) 62 108 true) w = .ok (.tuple #[.agg #[.nilIface, .int .i64 0, .int .i64 0], .bool false]) w := by kernel_rfl
theorem ta_sc (x : Value) (w : World) : Sem.run Tryz.prog (Instr.typeAssert (.iface 100 x) 62 104 true) w = .ok (.tuple #[.agg #[.nilIface, .nilIface], .bool false]) w := by kernel_rfl
theorem ta_sa (x : Value) (w : World) : Sem.run Tryz.prog (Instr.typeAssert (.iface 100 x) 62 106 true) w = .ok (.tuple #[.agg #[.nilIface, .nilIface], .bool false]) w := by kernel_rfl
theorem ta_sr (x : Value) (w : World) : Sem.run Tryz.prog (Instr.typeAssert (.iface 100 x) 62 108 true) w = .ok (.tuple #[.agg #[.nilIface, .int .i64 0, .int .i64 0], .bool false]) w := by kernel_rfl

end Go.Proofs.YtjefklagedidmaaGreat
