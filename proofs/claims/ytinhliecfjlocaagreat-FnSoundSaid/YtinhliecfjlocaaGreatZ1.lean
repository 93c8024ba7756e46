import Derived.Test.YtinhliecfjlocaaGreatY5
namespace Go.Proofs.YtinhliecfjlocaaGreat
open Go.RowKit
theorem run_copies (x y : Value) (w : World) : Sem.run Tryz.prog (callFunc 107 #[x, y]) w = .ok (.enter 107 #[x, y]) w := by kernel_rfl
theorem run_join (x : Value) (w : World) : Sem.run Tryz.prog (callFunc 106 #[x]) w = .ok (.enter 106 #[x]) w := by kernel_rfl
end Go.Proofs.YtinhliecfjlocaaGreat
