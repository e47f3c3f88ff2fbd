import Derived.Test.YtfmcngncaffloaaGreatDoorTie
import Derived.WalkKit
import Derived.ProofKit
namespace Go.Proofs.YtfmcngncaffloaaGreatDoor.Ald
open Go.ChangeShapes Go.WideShapes Go.ChangeAt Go.RowKit
set_option maxRecDepth 100000
theorem joined:joinedFacts Tryz.pinned.checked.prog 3 Tryz.f3 (Rows.OpenSpec.upto Rows.aloneSpec).bare Rows.aloneUptoRow=true:=by kernel_rfl
end Go.Proofs.YtfmcngncaffloaaGreatDoor.Ald
