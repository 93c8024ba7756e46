import Derived.Test.YtnlfheapclnppaaR4
import Derived.Test.YtnlfheapclnppaaR6
namespace Go.Proofs.Ytnlfheapclnppaa

theorem runDFA_holds : Rows.FnExactRunDFASaid := runDFA_of implRuns

#print axioms runDFA_holds

end Go.Proofs.Ytnlfheapclnppaa
