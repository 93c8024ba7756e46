import Derived.Test.YtjefklagedidmaaGreatY5
namespace Go.Proofs.YtjefklagedidmaaGreat
open Go.RowKit

theorem run_copies (x y : Value) (w : World) : Sem.run Tryz.prog (callFunc 95 #[x, y]) w = .ok (.enter 95 #[x, y]) w := by kernel_rfl
theorem run_join (x : Value) (w : World) : Sem.run Tryz.prog (callFunc 94 #[x]) w = .ok (.enter 94 #[x]) w := by kernel_rfl

end Go.Proofs.YtjefklagedidmaaGreat
