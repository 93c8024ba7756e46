import Derived.Test.YtgedhbnmejlmeaaY5
namespace Go.Proofs.Ytgedhbnmejlmeaa
open Go.RowKit

theorem run_copies (x y : Value) (w : World) : Sem.run Try.prog (callFunc 65 #[x, y]) w = .ok (.enter 65 #[x, y]) w := by kernel_rfl
theorem run_join (x : Value) (w : World) : Sem.run Try.prog (callFunc 64 #[x]) w = .ok (.enter 64 #[x]) w := by kernel_rfl

end Go.Proofs.Ytgedhbnmejlmeaa
