import Derived.Test.YtgedhbnmejlmeaaR4
import Derived.Test.YtgedhbnmejlmeaaR6
namespace Go.Proofs.Ytgedhbnmejlmeaa

theorem runDFA_holds : Rows.FnExactRunDFASaid := runDFA_of implRuns

#print axioms runDFA_holds

end Go.Proofs.Ytgedhbnmejlmeaa
