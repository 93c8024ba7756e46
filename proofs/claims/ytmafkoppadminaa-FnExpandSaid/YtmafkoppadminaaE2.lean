import Derived.Test.YtmafkoppadminaaE1
namespace Go.Proofs.Ytmafkoppadminaa
open Go.RowKit
theorem drew_own {base n : Nat} {w : World} {v : Value} {xs : List Value} {q : Nat} (h : w.ownsRow base 42 1 v n xs) : (w.drewN q).ownsRow base 42 1 v n xs := h
theorem sz_drewN (w : World) (q : Nat) : (w.drewN q).heap.size = w.heap.size := rfl
end Go.Proofs.Ytmafkoppadminaa
