import Derived.Test.YtfdkdjngeomcdaaDoorP3
namespace Go.Proofs.YtfdkdjngeomcdaaDoor
open Go.RowKit

/-! The values of the nodes. -/
def eV : Value := .iface 125 (.agg #[])
def sV (g : Nat → Nat) : Value := .iface 67 (ws4 g)
def cV (u v : Value) : Value := .iface 71 (.agg #[u, v])
def aV (u v : Value) : Value := .iface 106 (.agg #[u, v])
def rV (u : Value) (mn mx : Int) : Value := .iface 69 (.agg #[u, .int .i64 mn, .int .i64 mx])

end Go.Proofs.YtfdkdjngeomcdaaDoor

namespace Go.Proofs.YtfdkdjngeomcdaaDoor
open Go.RowKit

theorem tp_ee (x : Value) (w : World) : Sem.run Tryd.prog (Instr.typeAssert (.iface 125 x) 40 125 true) w = .ok (.tuple #[x, .bool true]) w := by kernel_rfl
theorem tp_es (x : Value) (w : World) : Sem.run Tryd.prog (Instr.typeAssert (.iface 125 x) 40 67 true) w = .ok (.tuple #[.agg #[.int .u64 0, .int .u64 0, .int .u64 0, .int .u64 0], .bool false]) w := by kernel_rfl
theorem tp_ec (x : Value) (w : World) : Sem.run Tryd.prog (Instr.typeAssert (.iface 125 x) 40 71 true) w = .ok (.tuple #[.agg #[.nilIface, .nilIface], .bool false]) w := by kernel_rfl
theorem tp_ea (x : Value) (w : World) : Sem.run Tryd.prog (Instr.typeAssert (.iface 125 x) 40 106 true) w = .ok (.tuple #[.agg #[.nilIface, .nilIface], .bool false]) w := by kernel_rfl
theorem tp_er (x : Value) (w : World) : Sem.run Tryd.prog (Instr.typeAssert (.iface 125 x) 40 69 true) w = .ok (.tuple #[.agg #[.nilIface, .int .i64 0, .int .i64 0], .bool false]) w := by kernel_rfl
theorem tp_se (x : Value) (w : World) : Sem.run Tryd.prog (Instr.typeAssert (.iface 67 x) 40 125 true) w = .ok (.tuple #[.agg #[], .bool false]) w := by kernel_rfl
theorem tp_ss (x : Value) (w : World) : Sem.run Tryd.prog (Instr.typeAssert (.iface 67 x) 40 67 true) w = .ok (.tuple #[x, .bool true]) w := by kernel_rfl
theorem tp_sc (x : Value) (w : World) : Sem.run Tryd.prog (Instr.typeAssert (.iface 67 x) 40 71 true) w = .ok (.tuple #[.agg #[.nilIface, .nilIface], .bool false]) w := by kernel_rfl
theorem tp_sa (x : Value) (w : World) : Sem.run Tryd.prog (Instr.typeAssert (.iface 67 x) 40 106 true) w = .ok (.tuple #[.agg #[.nilIface, .nilIface], .bool false]) w := by kernel_rfl
theorem tp_sr (x : Value) (w : World) : Sem.run Tryd.prog (Instr.typeAssert (.iface 67 x) 40 69 true) w = .ok (.tuple #[.agg #[.nilIface, .int .i64 0, .int .i64 0], .bool false]) w := by kernel_rfl
theorem tp_ce (x : Value) (w : World) : Sem.run Tryd.prog (Instr.typeAssert (.iface 71 x) 40 125 true) w = .ok (.tuple #[.agg #[], .bool false]) w := by kernel_rfl
theorem tp_cs (x : Value) (w : World) : Sem.run Tryd.prog (Instr.typeAssert (.iface 71 x) 40 67 true) w = .ok (.tuple #[.agg #[.int .u64 0, .int .u64 0, .int .u64 0, .int .u64 0], .bool false]) w := by kernel_rfl
theorem tp_cc (x : Value) (w : World) : Sem.run Tryd.prog (Instr.typeAssert (.iface 71 x) 40 71 true) w = .ok (.tuple #[x, .bool true]) w := by kernel_rfl
theorem tp_ca (x : Value) (w : World) : Sem.run Tryd.prog (Instr.typeAssert (.iface 71 x) 40 106 true) w = .ok (.tuple #[.agg #[.nilIface, .nilIface], .bool false]) w := by kernel_rfl
theorem tp_cr (x : Value) (w : World) : Sem.run Tryd.prog (Instr.typeAssert (.iface 71 x) 40 69 true) w = .ok (.tuple #[.agg #[.nilIface, .int .i64 0, .int .i64 0], .bool false]) w := by kernel_rfl
theorem tp_ae (x : Value) (w : World) : Sem.run Tryd.prog (Instr.typeAssert (.iface 106 x) 40 125 true) w = .ok (.tuple #[.agg #[], .bool false]) w := by kernel_rfl
theorem tp_as (x : Value) (w : World) : Sem.run Tryd.prog (Instr.typeAssert (.iface 106 x) 40 67 true) w = .ok (.tuple #[.agg #[.int .u64 0, .int .u64 0, .int .u64 0, .int .u64 0], .bool false]) w := by kernel_rfl
theorem tp_ac (x : Value) (w : World) : Sem.run Tryd.prog (Instr.typeAssert (.iface 106 x) 40 71 true) w = .ok (.tuple #[.agg #[.nilIface, .nilIface], .bool false]) w := by kernel_rfl
theorem tp_aa (x : Value) (w : World) : Sem.run Tryd.prog (Instr.typeAssert (.iface 106 x) 40 106 true) w = .ok (.tuple #[x, .bool true]) w := by kernel_rfl
theorem tp_ar (x : Value) (w : World) : Sem.run Tryd.prog (Instr.typeAssert (.iface 106 x) 40 69 true) w = .ok (.tuple #[.agg #[.nilIface, .int .i64 0, .int .i64 0], .bool false]) w := by kernel_rfl
theorem tp_re (x : Value) (w : World) : Sem.run Tryd.prog (Instr.typeAssert (.iface 69 x) 40 125 true) w = .ok (.tuple #[.agg #[], .bool false]) w := by kernel_rfl
theorem tp_rs (x : Value) (w : World) : Sem.run Tryd.prog (Instr.typeAssert (.iface 69 x) 40 67 true) w = .ok (.tuple #[.agg #[.int .u64 0, .int .u64 0, .int .u64 0, .int .u64 0], .bool false]) w := by kernel_rfl
theorem tp_rc (x : Value) (w : World) : Sem.run Tryd.prog (Instr.typeAssert (.iface 69 x) 40 71 true) w = .ok (.tuple #[.agg #[.nilIface, .nilIface], .bool false]) w := by kernel_rfl
theorem tp_ra (x : Value) (w : World) : Sem.run Tryd.prog (Instr.typeAssert (.iface 69 x) 40 106 true) w = .ok (.tuple #[.agg #[.nilIface, .nilIface], .bool false]) w := by kernel_rfl
theorem tp_rr (x : Value) (w : World) : Sem.run Tryd.prog (Instr.typeAssert (.iface 69 x) 40 69 true) w = .ok (.tuple #[x, .bool true]) w := by kernel_rfl

end Go.Proofs.YtfdkdjngeomcdaaDoor
