/-
  DERIVED. GIVEN WITH THE SEED: THE PROGRAM's TIES (one call each: nine closed facts by the kernel) AND EACH ROW's TIE, after the 31st guide's Derived/Test/Toyas{Tie, Card}.lean. No idea stands in it: it is a product of the set-up. Laid BY PROGRAM, IN A SANDBOX (cutbox-door.mjs). By AI agents, Wed Nov 11 2026. No macro, syntax, notation, axiom, sorry.
-/
import Derived.Test.YtfmcngncaffloaaGreatDoorRows
import Derived.LaidByTextLater
import Derived.SevenTiedAt
import Derived.LaidSub
import Derived.LaidOnce
namespace Go.Proofs.YtfmcngncaffloaaGreatDoor
open Go
set_option maxRecDepth 100000
theorem seatTie1 : Tryz.prog.laidByTextLater [("math/bits.deBruijn32tab", Rows.laid_math_bits_deBruijn32tab), ("math/bits.deBruijn64tab", Rows.laid_math_bits_deBruijn64tab), ("internal/strconv.uint64pow10", Rows.laid_internal_strconv_uint64pow10), ("weave/batch.ErrBatch", Rows.laid_weave_batch_ErrBatch), ("weave/batch.rules", Rows.laid_weave_batch_rules), ("weave/digest.ErrLength", Rows.laid_weave_digest_ErrLength), ("weave/digest.ErrSum", Rows.laid_weave_digest_ErrSum), ("weave/frames.ErrLength", Rows.laid_weave_frames_ErrLength), ("weave/frames.ErrSum", Rows.laid_weave_frames_ErrSum), ("weave/frames.ErrCut", Rows.laid_weave_frames_ErrCut), ("weave/frames.ErrRest", Rows.laid_weave_frames_ErrRest)] [.data, .data, .data, .sentinel, .data, .sentinel, .sentinel, .sentinel, .sentinel, .sentinel, .sentinel] true :=
  Program.laidByTextLater_by_one 168 8 65 (by kernel_rfl) (by kernel_rfl) (by kernel_rfl) (by kernel_rfl) (by kernel_rfl) (by kernel_rfl) (fun _ _ => by kernel_rfl)
theorem noOwnUnsafe : Tryz.pinned.checked.prog.headLifts.contains "ownunsafe" = false := by kernel_rfl
theorem tie : Tryz.prog.laidByTextLater [("math/bits.deBruijn32tab", Rows.laid_math_bits_deBruijn32tab), ("math/bits.deBruijn64tab", Rows.laid_math_bits_deBruijn64tab), ("internal/strconv.uint64pow10", Rows.laid_internal_strconv_uint64pow10), ("weave/batch.ErrBatch", Rows.laid_weave_batch_ErrBatch), ("weave/batch.rules", Rows.laid_weave_batch_rules), ("weave/digest.ErrLength", Rows.laid_weave_digest_ErrLength), ("weave/digest.ErrSum", Rows.laid_weave_digest_ErrSum), ("weave/frames.ErrLength", Rows.laid_weave_frames_ErrLength), ("weave/frames.ErrSum", Rows.laid_weave_frames_ErrSum), ("weave/frames.ErrCut", Rows.laid_weave_frames_ErrCut), ("weave/frames.ErrRest", Rows.laid_weave_frames_ErrRest)] [.data, .data, .data, .sentinel, .data, .sentinel, .sentinel, .sentinel, .sentinel, .sentinel, .sentinel] true :=
  Program.laidByTextLater.sub seatTie1 ["math/bits.deBruijn32tab", "math/bits.deBruijn64tab", "internal/strconv.uint64pow10", "weave/batch.ErrBatch", "weave/batch.rules", "weave/digest.ErrLength", "weave/digest.ErrSum", "weave/frames.ErrLength", "weave/frames.ErrSum", "weave/frames.ErrCut", "weave/frames.ErrRest"] (by kernel_rfl) (by kernel_rfl)
theorem alone_row_tie : Rows.aloneRow.laidByTextAt .later Tryz.pinned [.data, .data, .data, .sentinel, .data, .sentinel, .sentinel, .sentinel, .sentinel, .sentinel, .sentinel] true :=
  OpenClaim.laidByTextAt_later rfl rfl tie noOwnUnsafe
theorem spread_row_tie : Rows.spreadRow.laidByTextAt .later Tryz.pinned [.data, .data, .data, .sentinel, .data, .sentinel, .sentinel, .sentinel, .sentinel, .sentinel, .sentinel] true :=
  OpenClaim.laidByTextAt_later rfl rfl tie noOwnUnsafe
theorem merged_row_tie : Rows.mergedRow.laidByTextAt .later Tryz.pinned [.data, .data, .data, .sentinel, .data, .sentinel, .sentinel, .sentinel, .sentinel, .sentinel, .sentinel] true :=
  OpenClaim.laidByTextAt_later rfl rfl tie noOwnUnsafe
theorem causal_row_tie : Rows.causalRow.laidByTextAt .later Tryz.pinned [.data, .data, .data, .sentinel, .data, .sentinel, .sentinel, .sentinel, .sentinel, .sentinel, .sentinel] true :=
  OpenClaim.laidByTextAt_later rfl rfl tie noOwnUnsafe
theorem works_row_tie : Rows.worksRow.laidByTextAt .later Tryz.pinned [.data, .data, .data, .sentinel, .data, .sentinel, .sentinel, .sentinel, .sentinel, .sentinel, .sentinel] true :=
  OpenClaim.laidByTextAt_later rfl rfl tie noOwnUnsafe
theorem reads_row_tie : Rows.readsRow.laidByTextAt .later Tryz.pinned [.data, .data, .data, .sentinel, .data, .sentinel, .sentinel, .sentinel, .sentinel, .sentinel, .sentinel] true :=
  OpenClaim.laidByTextAt_later rfl rfl tie noOwnUnsafe
theorem clocks_row_tie : Rows.clocksRow.laidByTextAt .later Tryz.pinned [.data, .data, .data, .sentinel, .data, .sentinel, .sentinel, .sentinel, .sentinel, .sentinel, .sentinel] true :=
  OpenClaim.laidByTextAt_later rfl rfl tie noOwnUnsafe
theorem ways_row_tie : Rows.waysRow.laidByTextAt .later Tryz.pinned [.data, .data, .data, .sentinel, .data, .sentinel, .sentinel, .sentinel, .sentinel, .sentinel, .sentinel] true :=
  OpenClaim.laidByTextAt_later rfl rfl tie noOwnUnsafe
theorem tie2 : Tryz.prog.laidByTextLater [("math/bits.deBruijn32tab", Rows.laid_math_bits_deBruijn32tab), ("math/bits.deBruijn64tab", Rows.laid_math_bits_deBruijn64tab), ("internal/strconv.uint64pow10", Rows.laid_internal_strconv_uint64pow10), ("weave/batch.ErrBatch", Rows.laid_weave_batch_ErrBatch), ("weave/batch.rules", Rows.laid_weave_batch_rules)] [.data, .data, .data, .sentinel, .data] true :=
  Program.laidByTextLater.sub seatTie1 ["math/bits.deBruijn32tab", "math/bits.deBruijn64tab", "internal/strconv.uint64pow10", "weave/batch.ErrBatch", "weave/batch.rules"] (by kernel_rfl) (by kernel_rfl)
theorem own_row_tie : Rows.ownRow.laidByTextAt .later Tryz.pinned [.data, .data, .data, .sentinel, .data] true :=
  OpenClaim.laidByTextAt_later rfl rfl tie2 noOwnUnsafe
theorem aloneUpto_row_tie : Rows.aloneUptoRow.laidByTextAt .later Tryz.pinned [.data, .data, .data, .sentinel, .data, .sentinel, .sentinel, .sentinel, .sentinel, .sentinel, .sentinel] true :=
  OpenClaim.laidByTextAt_later rfl rfl tie noOwnUnsafe
theorem ownUpto_row_tie : Rows.ownUptoRow.laidByTextAt .later Tryz.pinned [.data, .data, .data, .sentinel, .data] true :=
  OpenClaim.laidByTextAt_later rfl rfl tie2 noOwnUnsafe
theorem spreadUpto_row_tie : Rows.spreadUptoRow.laidByTextAt .later Tryz.pinned [.data, .data, .data, .sentinel, .data, .sentinel, .sentinel, .sentinel, .sentinel, .sentinel, .sentinel] true :=
  OpenClaim.laidByTextAt_later rfl rfl tie noOwnUnsafe
theorem mergedUpto_row_tie : Rows.mergedUptoRow.laidByTextAt .later Tryz.pinned [.data, .data, .data, .sentinel, .data, .sentinel, .sentinel, .sentinel, .sentinel, .sentinel, .sentinel] true :=
  OpenClaim.laidByTextAt_later rfl rfl tie noOwnUnsafe
theorem causalUpto_row_tie : Rows.causalUptoRow.laidByTextAt .later Tryz.pinned [.data, .data, .data, .sentinel, .data, .sentinel, .sentinel, .sentinel, .sentinel, .sentinel, .sentinel] true :=
  OpenClaim.laidByTextAt_later rfl rfl tie noOwnUnsafe
theorem worksUpto_row_tie : Rows.worksUptoRow.laidByTextAt .later Tryz.pinned [.data, .data, .data, .sentinel, .data, .sentinel, .sentinel, .sentinel, .sentinel, .sentinel, .sentinel] true :=
  OpenClaim.laidByTextAt_later rfl rfl tie noOwnUnsafe
theorem readsUpto_row_tie : Rows.readsUptoRow.laidByTextAt .later Tryz.pinned [.data, .data, .data, .sentinel, .data, .sentinel, .sentinel, .sentinel, .sentinel, .sentinel, .sentinel] true :=
  OpenClaim.laidByTextAt_later rfl rfl tie noOwnUnsafe
theorem clocksUpto_row_tie : Rows.clocksUptoRow.laidByTextAt .later Tryz.pinned [.data, .data, .data, .sentinel, .data, .sentinel, .sentinel, .sentinel, .sentinel, .sentinel, .sentinel] true :=
  OpenClaim.laidByTextAt_later rfl rfl tie noOwnUnsafe
theorem waysUpto_row_tie : Rows.waysUptoRow.laidByTextAt .later Tryz.pinned [.data, .data, .data, .sentinel, .data, .sentinel, .sentinel, .sentinel, .sentinel, .sentinel, .sentinel] true :=
  OpenClaim.laidByTextAt_later rfl rfl tie noOwnUnsafe
end Go.Proofs.YtfmcngncaffloaaGreatDoor
