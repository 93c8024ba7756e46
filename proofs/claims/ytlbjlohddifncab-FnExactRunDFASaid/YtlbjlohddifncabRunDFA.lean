import Derived.Test.YtlbjlohddifncabR4
import Derived.Test.YtlbjlohddifncabR6
namespace Go.Proofs.Ytlbjlohddifncab

theorem runDFA_holds : Rows.FnExactRunDFASaid := runDFA_of implRuns

#print axioms runDFA_holds

end Go.Proofs.Ytlbjlohddifncab
