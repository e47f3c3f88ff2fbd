import Derived.Test.YtfmcngncaffloabGreatDoorTie
import Derived.WalkKit
import Derived.ProofKit
namespace Go.Proofs.YtfmcngncaffloabGreatDoor.Whd
open Go.ChangeShapes Go.WideShapes Go.ChangeAt Go.RowKit
set_option maxRecDepth 100000
theorem joined:joinedFacts Tryz.pinned.checked.prog 4 Tryz.f4 (OpenSpec.ofChange Rows.wholeSpec).bare Rows.wholeRow=true:=by kernel_rfl
end Go.Proofs.YtfmcngncaffloabGreatDoor.Whd
