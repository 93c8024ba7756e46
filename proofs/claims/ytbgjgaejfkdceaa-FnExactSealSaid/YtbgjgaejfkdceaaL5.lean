import Derived.Test.YtbgjgaejfkdceaaL2
import Derived.Test.YtbgjgaejfkdceaaL3
namespace Go.Proofs.Ytbgjgaejfkdceaa
open Go.RowKit

end Go.Proofs.Ytbgjgaejfkdceaa
