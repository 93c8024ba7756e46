import Derived.Test.YtjoaapoppcibdaaY5
namespace Go.Proofs.Ytjoaapoppcibdaa
open Go.RowKit

theorem run_copies (x y : Value) (w : World) : Sem.run Try.prog (callFunc 68 #[x, y]) w = .ok (.enter 68 #[x, y]) w := by kernel_rfl
theorem run_join (x : Value) (w : World) : Sem.run Try.prog (callFunc 67 #[x]) w = .ok (.enter 67 #[x]) w := by kernel_rfl

end Go.Proofs.Ytjoaapoppcibdaa
