import Derived.Test.YtfjnhmgmcldidaaS4
namespace Go.Proofs.Ytfjnhmgmcldidaa
open Go.RowKit


end Go.Proofs.Ytfjnhmgmcldidaa
