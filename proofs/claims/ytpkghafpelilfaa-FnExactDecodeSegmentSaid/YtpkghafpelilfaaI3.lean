import Derived.Test.YtpkghafpelilfaaI2
namespace Go.Proofs.Ytpkghafpelilfaa
open Go.RowKit

def lenV (v : Value) : Nat := match v with | .slice _ n _ => n | _ => 0

theorem Bytes.drop {bs : List Int} (h : Bytes bs) (k : Nat) : Bytes (bs.drop k) := fun i => by
  rw [drop_get]
  exact h (k + i)

end Go.Proofs.Ytpkghafpelilfaa
