import Derived.Test.YtfmcngncaffloaaGreatDoorTie
import Derived.WalkKit
import Derived.ProofKit
namespace Go.Proofs.YtfmcngncaffloaaGreatDoor.Mgd
open Go.ChangeShapes Go.WideShapes Go.ChangeAt Go.RowKit
set_option maxRecDepth 100000

/-- What the judge's row says of the program (in a text of its own: it takes most of the memory that a text may have). -/
theorem joined : joinedFacts Tryz.pinned.checked.prog 6 Tryz.f6 (OpenSpec.ofChange Rows.mergedSpec).bare Rows.mergedRow = true := by kernel_rfl

end Go.Proofs.YtfmcngncaffloaaGreatDoor.Mgd
