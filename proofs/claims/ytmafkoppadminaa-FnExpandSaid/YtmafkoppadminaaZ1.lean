import Derived.Test.YtmafkoppadminaaY5
namespace Go.Proofs.Ytmafkoppadminaa
open Go.RowKit
theorem run_copies (x y : Value) (w : World) : Sem.run Try.prog (callFunc 47 #[x, y]) w = .ok (.enter 47 #[x, y]) w := by kernel_rfl
theorem run_join (x : Value) (w : World) : Sem.run Try.prog (callFunc 46 #[x]) w = .ok (.enter 46 #[x]) w := by kernel_rfl
end Go.Proofs.Ytmafkoppadminaa
