import Derived.Test.YtfmcngncaffloabGreatDoorTie
import Derived.WalkKit
import Derived.ProofKit
namespace Go.Proofs.YtfmcngncaffloabGreatDoor.Agd
open Go.ChangeShapes Go.WideShapes Go.ChangeAt Go.RowKit
set_option maxRecDepth 100000
theorem joined:joinedFacts Tryz.pinned.checked.prog 3 Tryz.f3 (OpenSpec.ofChange Rows.agreeSpec).bare Rows.agreeRow=true:=by kernel_rfl
end Go.Proofs.YtfmcngncaffloabGreatDoor.Agd
