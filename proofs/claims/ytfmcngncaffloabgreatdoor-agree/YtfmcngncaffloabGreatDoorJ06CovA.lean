import Derived.Test.YtfmcngncaffloabGreatDoorJ03KeA
import Derived.Deep.QuietTactic
import Derived.BigQuiet
namespace Go.Proofs.YtfmcngncaffloabGreatDoor
open Go.RowKit
set_option maxRecDepth 100000
