import Derived.Test.YtfmcngncaffloaaGreatDoorG18PoD
import Derived.ArgAppend
namespace Go.Proofs.YtfmcngncaffloaaGreatDoor
open Go.RowKit
set_option maxRecDepth 100000
end Go.Proofs.YtfmcngncaffloaaGreatDoor
