import Derived.Test.YtmafkoppadminaaD1
import Derived.RegionTactic
import Derived.BigRegion
import Derived.Deep.RegionWith
import Derived.Deep.OwnRows
namespace Go.Proofs.Ytmafkoppadminaa
open Go.RowKit
end Go.Proofs.Ytmafkoppadminaa
