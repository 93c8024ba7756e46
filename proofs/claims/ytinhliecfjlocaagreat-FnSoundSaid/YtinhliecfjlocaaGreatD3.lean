import Derived.Test.YtinhliecfjlocaaGreatD1
import Derived.RegionTactic
import Derived.BigRegion
import Derived.Deep.RegionWith
import Derived.Deep.OwnRows
namespace Go.Proofs.YtinhliecfjlocaaGreat
open Go.RowKit
end Go.Proofs.YtinhliecfjlocaaGreat
