import Derived.Test.YtcmofgehhdfifaaGreatDoorD1
import Derived.RegionTactic
import Derived.BigRegion
import Derived.Deep.RegionWith
import Derived.Deep.OwnRows
namespace Go.Proofs.YtcmofgehhdfifaaGreatDoor
open Go.RowKit
end Go.Proofs.YtcmofgehhdfifaaGreatDoor
