import Derived.Test.YtfdkdjngeomcdaaDoorP18
namespace Go.Proofs.YtfdkdjngeomcdaaDoor
open Go.RowKit

theorem run_copies (x y : Value) (w : World) : Sem.run Tryd.prog (callFunc 64 #[x, y]) w = .ok (.enter 64 #[x, y]) w := by kernel_rfl
theorem run_join (x : Value) (w : World) : Sem.run Tryd.prog (callFunc 63 #[x]) w = .ok (.enter 63 #[x]) w := by kernel_rfl

end Go.Proofs.YtfdkdjngeomcdaaDoor
