import Derived.Test.YtfmcngncaffloabGreatDoorTie
import Derived.WalkKit
import Derived.ProofKit
namespace Go.Proofs.YtfmcngncaffloabGreatDoor.Rfd
open Go.ChangeShapes Go.WideShapes Go.ChangeAt Go.RowKit
set_option maxRecDepth 100000
theorem joined:joinedFacts Tryz.pinned.checked.prog 5 Tryz.f5 (OpenSpec.ofChange Rows.refusedSpec).bare Rows.refusedRow=true:=by kernel_rfl
end Go.Proofs.YtfmcngncaffloabGreatDoor.Rfd
