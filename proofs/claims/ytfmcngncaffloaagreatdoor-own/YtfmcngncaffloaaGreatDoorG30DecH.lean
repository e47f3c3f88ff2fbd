import Derived.Test.YtfmcngncaffloaaGreatDoorG27DecA
namespace Go.Proofs.YtfmcngncaffloaaGreatDoor.Wv

end Go.Proofs.YtfmcngncaffloaaGreatDoor.Wv
namespace Go.Proofs.YtfmcngncaffloaaGreatDoor
open Go.RowKit
set_option maxRecDepth 100000

end Go.Proofs.YtfmcngncaffloaaGreatDoor
