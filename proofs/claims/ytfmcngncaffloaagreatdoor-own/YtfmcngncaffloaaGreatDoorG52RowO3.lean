import Derived.Test.YtfmcngncaffloaaGreatDoorTie
import Derived.WalkKit
import Derived.ProofKit
namespace Go.Proofs.YtfmcngncaffloaaGreatDoor.Owd
open Go.ChangeShapes Go.WideShapes Go.ChangeAt Go.RowKit
set_option maxRecDepth 100000

/-- What the judge's row says of the program (in a text of its own: it takes most of the memory that a text may have). -/
theorem joined : joinedFacts Tryz.pinned.checked.prog 4 Tryz.f4 (OpenSpec.ofChange Rows.ownSpec).bare Rows.ownRow = true := by kernel_rfl

end Go.Proofs.YtfmcngncaffloaaGreatDoor.Owd
