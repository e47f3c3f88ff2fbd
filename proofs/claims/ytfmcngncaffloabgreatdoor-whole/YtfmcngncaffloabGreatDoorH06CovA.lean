import Derived.Test.YtfmcngncaffloabGreatDoorH03KeA
import Derived.Deep.QuietTactic
import Derived.BigQuiet
namespace Go.Proofs.YtfmcngncaffloabGreatDoor
open Go.RowKit
set_option maxRecDepth 100000
end Go.Proofs.YtfmcngncaffloabGreatDoor
