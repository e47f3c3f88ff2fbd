/-
  DERIVED. GIVEN WITH THE SEED: THE PROGRAM's TIES (one call each: nine closed facts by the kernel) AND EACH ROW's TIE, after the 31st guide's Derived/Test/Toyas{Tie, Card}.lean. No idea stands in it: it is a product of the set-up. Laid BY PROGRAM, IN A SANDBOX (cutbox-door.mjs). By AI agents, Wed Nov 11 2026. No macro, syntax, notation, axiom, sorry.
-/
import Derived.Test.YtfmcngncaffloaaDoorRows
import Derived.LaidByTextLater
import Derived.SevenTiedAt
import Derived.LaidSub
import Derived.LaidOnce
namespace Go.Proofs.YtfmcngncaffloaaDoor
open Go
set_option maxRecDepth 100000
theorem seatTie1 : Tryd.prog.laidByTextLater [("math/bits.deBruijn32tab", Rows.laid_math_bits_deBruijn32tab), ("math/bits.deBruijn64tab", Rows.laid_math_bits_deBruijn64tab), ("internal/strconv.uint64pow10", Rows.laid_internal_strconv_uint64pow10), ("weave/batch.ErrBatch", Rows.laid_weave_batch_ErrBatch), ("weave/batch.rules", Rows.laid_weave_batch_rules), ("weave/frames.ErrFrame", Rows.laid_weave_frames_ErrFrame), ("weave/frames.ErrLength", Rows.laid_weave_frames_ErrLength), ("weave/frames.ErrSum", Rows.laid_weave_frames_ErrSum), ("weave/frames.ErrCut", Rows.laid_weave_frames_ErrCut), ("weave/frames.ErrRest", Rows.laid_weave_frames_ErrRest)] [.data, .data, .data, .sentinel, .data, .sentinel, .sentinel, .sentinel, .sentinel, .sentinel] true :=
  Program.laidByTextLater_by_one 149 8 65 (by kernel_rfl) (by kernel_rfl) (by kernel_rfl) (by kernel_rfl) (by kernel_rfl) (by kernel_rfl) (fun _ _ => by kernel_rfl)
theorem noOwnUnsafe : Tryd.pinned.checked.prog.headLifts.contains "ownunsafe" = false := by kernel_rfl
theorem tie : Tryd.prog.laidByTextLater [("math/bits.deBruijn32tab", Rows.laid_math_bits_deBruijn32tab), ("math/bits.deBruijn64tab", Rows.laid_math_bits_deBruijn64tab), ("internal/strconv.uint64pow10", Rows.laid_internal_strconv_uint64pow10), ("weave/batch.ErrBatch", Rows.laid_weave_batch_ErrBatch), ("weave/batch.rules", Rows.laid_weave_batch_rules), ("weave/frames.ErrFrame", Rows.laid_weave_frames_ErrFrame)] [.data, .data, .data, .sentinel, .data, .sentinel] true :=
  Program.laidByTextLater.sub seatTie1 ["math/bits.deBruijn32tab", "math/bits.deBruijn64tab", "internal/strconv.uint64pow10", "weave/batch.ErrBatch", "weave/batch.rules", "weave/frames.ErrFrame"] (by kernel_rfl) (by kernel_rfl)
theorem encodes_row_tie : Rows.encodesRow.laidByTextAt .later Tryd.pinned [.data, .data, .data, .sentinel, .data, .sentinel] true :=
  OpenClaim.laidByTextAt_later rfl rfl tie noOwnUnsafe
theorem tie2 : Tryd.prog.laidByTextLater [("math/bits.deBruijn32tab", Rows.laid_math_bits_deBruijn32tab), ("math/bits.deBruijn64tab", Rows.laid_math_bits_deBruijn64tab), ("internal/strconv.uint64pow10", Rows.laid_internal_strconv_uint64pow10), ("weave/batch.ErrBatch", Rows.laid_weave_batch_ErrBatch), ("weave/batch.rules", Rows.laid_weave_batch_rules), ("weave/frames.ErrFrame", Rows.laid_weave_frames_ErrFrame), ("weave/frames.ErrLength", Rows.laid_weave_frames_ErrLength), ("weave/frames.ErrSum", Rows.laid_weave_frames_ErrSum), ("weave/frames.ErrCut", Rows.laid_weave_frames_ErrCut), ("weave/frames.ErrRest", Rows.laid_weave_frames_ErrRest)] [.data, .data, .data, .sentinel, .data, .sentinel, .sentinel, .sentinel, .sentinel, .sentinel] true :=
  Program.laidByTextLater.sub seatTie1 ["math/bits.deBruijn32tab", "math/bits.deBruijn64tab", "internal/strconv.uint64pow10", "weave/batch.ErrBatch", "weave/batch.rules", "weave/frames.ErrFrame", "weave/frames.ErrLength", "weave/frames.ErrSum", "weave/frames.ErrCut", "weave/frames.ErrRest"] (by kernel_rfl) (by kernel_rfl)
theorem decodes_row_tie : Rows.decodesRow.laidByTextAt .later Tryd.pinned [.data, .data, .data, .sentinel, .data, .sentinel, .sentinel, .sentinel, .sentinel, .sentinel] true :=
  OpenClaim.laidByTextAt_later rfl rfl tie2 noOwnUnsafe
theorem back_row_tie : Rows.backRow.laidByTextAt .later Tryd.pinned [.data, .data, .data, .sentinel, .data, .sentinel, .sentinel, .sentinel, .sentinel, .sentinel] true :=
  OpenClaim.laidByTextAt_later rfl rfl tie2 noOwnUnsafe
theorem encodesUpto_row_tie : Rows.encodesUptoRow.laidByTextAt .later Tryd.pinned [.data, .data, .data, .sentinel, .data, .sentinel] true :=
  OpenClaim.laidByTextAt_later rfl rfl tie noOwnUnsafe
theorem decodesUpto_row_tie : Rows.decodesUptoRow.laidByTextAt .later Tryd.pinned [.data, .data, .data, .sentinel, .data, .sentinel, .sentinel, .sentinel, .sentinel, .sentinel] true :=
  OpenClaim.laidByTextAt_later rfl rfl tie2 noOwnUnsafe
theorem backUpto_row_tie : Rows.backUptoRow.laidByTextAt .later Tryd.pinned [.data, .data, .data, .sentinel, .data, .sentinel, .sentinel, .sentinel, .sentinel, .sentinel] true :=
  OpenClaim.laidByTextAt_later rfl rfl tie2 noOwnUnsafe
end Go.Proofs.YtfmcngncaffloaaDoor
