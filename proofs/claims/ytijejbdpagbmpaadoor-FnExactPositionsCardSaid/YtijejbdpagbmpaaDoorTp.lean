import Derived.Test.YtijejbdpagbmpaaDoorP2
namespace Go.Proofs.YtijejbdpagbmpaaDoor
open Go.RowKit

theorem tp_ee (x : Value) (w : World) : Sem.run Tryd.prog (Instr.typeAssert (.iface 115 x) 52 115 true) w = .ok (.tuple #[x, .bool true]) w := by kernel_rfl
theorem tp_es (x : Value) (w : World) : Sem.run Tryd.prog (Instr.typeAssert (.iface 115 x) 52 87 true) w = .ok (.tuple #[.agg #[.int .u64 0, .int .u64 0, .int .u64 0, .int .u64 0], .bool false]) w := by kernel_rfl
theorem tp_ec (x : Value) (w : World) : Sem.run Tryd.prog (Instr.typeAssert (.iface 115 x) 52 91 true) w = .ok (.tuple #[.agg #[.nilIface, .nilIface], .bool false]) w := by kernel_rfl
theorem tp_ea (x : Value) (w : World) : Sem.run Tryd.prog (Instr.typeAssert (.iface 115 x) 52 105 true) w = .ok (.tuple #[.agg #[.nilIface, .nilIface], .bool false]) w := by kernel_rfl
theorem tp_er (x : Value) (w : World) : Sem.run Tryd.prog (Instr.typeAssert (.iface 115 x) 52 89 true) w = .ok (.tuple #[.agg #[.nilIface, .int .i64 0, .int .i64 0], .bool false]) w := by kernel_rfl
theorem tp_se (x : Value) (w : World) : Sem.run Tryd.prog (Instr.typeAssert (.iface 87 x) 52 115 true) w = .ok (.tuple #[.agg #[], .bool false]) w := by kernel_rfl
theorem tp_ss (x : Value) (w : World) : Sem.run Tryd.prog (Instr.typeAssert (.iface 87 x) 52 87 true) w = .ok (.tuple #[x, .bool true]) w := by kernel_rfl
theorem tp_sc (x : Value) (w : World) : Sem.run Tryd.prog (Instr.typeAssert (.iface 87 x) 52 91 true) w = .ok (.tuple #[.agg #[.nilIface, .nilIface], .bool false]) w := by kernel_rfl
theorem tp_sa (x : Value) (w : World) : Sem.run Tryd.prog (Instr.typeAssert (.iface 87 x) 52 105 true) w = .ok (.tuple #[.agg #[.nilIface, .nilIface], .bool false]) w := by kernel_rfl
theorem tp_sr (x : Value) (w : World) : Sem.run Tryd.prog (Instr.typeAssert (.iface 87 x) 52 89 true) w = .ok (.tuple #[.agg #[.nilIface, .int .i64 0, .int .i64 0], .bool false]) w := by kernel_rfl
theorem tp_ce (x : Value) (w : World) : Sem.run Tryd.prog (Instr.typeAssert (.iface 91 x) 52 115 true) w = .ok (.tuple #[.agg #[], .bool false]) w := by kernel_rfl
theorem tp_cs (x : Value) (w : World) : Sem.run Tryd.prog (Instr.typeAssert (.iface 91 x) 52 87 true) w = .ok (.tuple #[.agg #[.int .u64 0, .int .u64 0, .int .u64 0, .int .u64 0], .bool false]) w := by kernel_rfl
theorem tp_cc (x : Value) (w : World) : Sem.run Tryd.prog (Instr.typeAssert (.iface 91 x) 52 91 true) w = .ok (.tuple #[x, .bool true]) w := by kernel_rfl
theorem tp_ca (x : Value) (w : World) : Sem.run Tryd.prog (Instr.typeAssert (.iface 91 x) 52 105 true) w = .ok (.tuple #[.agg #[.nilIface, .nilIface], .bool false]) w := by kernel_rfl
theorem tp_cr (x : Value) (w : World) : Sem.run Tryd.prog (Instr.typeAssert (.iface 91 x) 52 89 true) w = .ok (.tuple #[.agg #[.nilIface, .int .i64 0, .int .i64 0], .bool false]) w := by kernel_rfl
theorem tp_ae (x : Value) (w : World) : Sem.run Tryd.prog (Instr.typeAssert (.iface 105 x) 52 115 true) w = .ok (.tuple #[.agg #[], .bool false]) w := by kernel_rfl
theorem tp_as (x : Value) (w : World) : Sem.run Tryd.prog (Instr.typeAssert (.iface 105 x) 52 87 true) w = .ok (.tuple #[.agg #[.int .u64 0, .int .u64 0, .int .u64 0, .int .u64 0], .bool false]) w := by kernel_rfl
theorem tp_ac (x : Value) (w : World) : Sem.run Tryd.prog (Instr.typeAssert (.iface 105 x) 52 91 true) w = .ok (.tuple #[.agg #[.nilIface, .nilIface], .bool false]) w := by kernel_rfl
theorem tp_aa (x : Value) (w : World) : Sem.run Tryd.prog (Instr.typeAssert (.iface 105 x) 52 105 true) w = .ok (.tuple #[x, .bool true]) w := by kernel_rfl
theorem tp_ar (x : Value) (w : World) : Sem.run Tryd.prog (Instr.typeAssert (.iface 105 x) 52 89 true) w = .ok (.tuple #[.agg #[.nilIface, .int .i64 0, .int .i64 0], .bool false]) w := by kernel_rfl
theorem tp_re (x : Value) (w : World) : Sem.run Tryd.prog (Instr.typeAssert (.iface 89 x) 52 115 true) w = .ok (.tuple #[.agg #[], .bool false]) w := by kernel_rfl
theorem tp_rs (x : Value) (w : World) : Sem.run Tryd.prog (Instr.typeAssert (.iface 89 x) 52 87 true) w = .ok (.tuple #[.agg #[.int .u64 0, .int .u64 0, .int .u64 0, .int .u64 0], .bool false]) w := by kernel_rfl
theorem tp_rc (x : Value) (w : World) : Sem.run Tryd.prog (Instr.typeAssert (.iface 89 x) 52 91 true) w = .ok (.tuple #[.agg #[.nilIface, .nilIface], .bool false]) w := by kernel_rfl
theorem tp_ra (x : Value) (w : World) : Sem.run Tryd.prog (Instr.typeAssert (.iface 89 x) 52 105 true) w = .ok (.tuple #[.agg #[.nilIface, .nilIface], .bool false]) w := by kernel_rfl
theorem tp_rr (x : Value) (w : World) : Sem.run Tryd.prog (Instr.typeAssert (.iface 89 x) 52 89 true) w = .ok (.tuple #[x, .bool true]) w := by kernel_rfl

end Go.Proofs.YtijejbdpagbmpaaDoor
