import Derived.Test.YtbgjgaejfkdceaaP6
import Derived.Test.YtbgjgaejfkdceaaP1
import Derived.Test.YtbgjgaejfkdceaaP2
namespace Go.Proofs.Ytbgjgaejfkdceaa
open Go.RowKit

end Go.Proofs.Ytbgjgaejfkdceaa
