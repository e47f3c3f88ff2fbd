/-
  NARROWER THAN 'FOR EVERY INPUT', by the rows' own cells (each row's printed sentence says how): Agree: laid · Whole: laid · Refused: laid · All: laid.
  DERIVED. THE GIVEN ROWS OF THIS SEAT. 4 by the template 'for every input the law returns true; each argument reads behind the call as it read before'; 0 by the template 'total and deterministic' (their statements: YtfmcngncaffloabGreatDoorTotals.lean).
  GIVEN WITH THE SEED: the statements are not yours to turn. If you find one false, say at which input.
  Laid BY PROGRAM, IN A SANDBOX (cutbox-rows.mjs): the forced cells as the released guide's own fill.sh prints them over the translation 4b1e88dd2363a80c… (all of the seat's roots in one cut). By AI agents, Wed Nov 11 2026. No macro, syntax, notation, axiom, sorry.
-/
import Derived.Test.YtfmcngncaffloabGreatDoorChecked
import GoSem.Claim
import GoSem.ClaimJoined
import GoSem.ClaimMapViews
import Derived.JoinedTies
import Derived.KernelRfl
namespace Go.Proofs.YtfmcngncaffloabGreatDoor
/- THE CELL 'sum', in the pinned program and in every row, IS THE sha256 OF THE DUMP (.gsa) THAT YtfmcngncaffloabGreatDoorProg.lean LOADS. Nothing in Lean hashes anything: it is a label: what it is worth is what the hold of that sum in a sandbox is worth. -/
noncomputable def Tryz.pinned : Pinned := { name := "ytfmcngncaffloabgreatdoor", sum := "4b1e88dd2363a80ca95428f42be8436ff9f2a787eaaa7a0d59ae47543294861d", checked := Tryz.checked }
namespace Rows
def none {H : Type} : Left H := { results := [], args := [] }

/- WHAT THE LISTED PACKAGE-LEVEL VARIABLES READ AS WHEN THE CALL BEGINS. Each datum BY PROGRAM (the guide's laid-datum.mjs) off the statement by which the dump's own 'gosem.cut.vars' lays the variable. In a bare row this is a premise. The card (YtfmcngncaffloabGreatDoorCards.lean) ties it to the program's text. -/
def laid_math_bits_deBruijn32tab {H : Type} : DataW H := .agg [.lit (.int .u8 0), .lit (.int .u8 1), .lit (.int .u8 28), .lit (.int .u8 2), .lit (.int .u8 29), .lit (.int .u8 14), .lit (.int .u8 24), .lit (.int .u8 3), .lit (.int .u8 30), .lit (.int .u8 22), .lit (.int .u8 20), .lit (.int .u8 15), .lit (.int .u8 25), .lit (.int .u8 17), .lit (.int .u8 4), .lit (.int .u8 8), .lit (.int .u8 31), .lit (.int .u8 27), .lit (.int .u8 13), .lit (.int .u8 23), .lit (.int .u8 21), .lit (.int .u8 19), .lit (.int .u8 16), .lit (.int .u8 7), .lit (.int .u8 26), .lit (.int .u8 12), .lit (.int .u8 18), .lit (.int .u8 6), .lit (.int .u8 11), .lit (.int .u8 5), .lit (.int .u8 10), .lit (.int .u8 9)]
def laid_math_bits_deBruijn64tab {H : Type} : DataW H := .agg [.lit (.int .u8 0), .lit (.int .u8 1), .lit (.int .u8 56), .lit (.int .u8 2), .lit (.int .u8 57), .lit (.int .u8 49), .lit (.int .u8 28), .lit (.int .u8 3), .lit (.int .u8 61), .lit (.int .u8 58), .lit (.int .u8 42), .lit (.int .u8 50), .lit (.int .u8 38), .lit (.int .u8 29), .lit (.int .u8 17), .lit (.int .u8 4), .lit (.int .u8 62), .lit (.int .u8 47), .lit (.int .u8 59), .lit (.int .u8 36), .lit (.int .u8 45), .lit (.int .u8 43), .lit (.int .u8 51), .lit (.int .u8 22), .lit (.int .u8 53), .lit (.int .u8 39), .lit (.int .u8 33), .lit (.int .u8 30), .lit (.int .u8 24), .lit (.int .u8 18), .lit (.int .u8 12), .lit (.int .u8 5), .lit (.int .u8 63), .lit (.int .u8 55), .lit (.int .u8 48), .lit (.int .u8 27), .lit (.int .u8 60), .lit (.int .u8 41), .lit (.int .u8 37), .lit (.int .u8 16), .lit (.int .u8 46), .lit (.int .u8 35), .lit (.int .u8 44), .lit (.int .u8 21), .lit (.int .u8 52), .lit (.int .u8 32), .lit (.int .u8 23), .lit (.int .u8 11), .lit (.int .u8 54), .lit (.int .u8 26), .lit (.int .u8 40), .lit (.int .u8 15), .lit (.int .u8 34), .lit (.int .u8 20), .lit (.int .u8 31), .lit (.int .u8 10), .lit (.int .u8 25), .lit (.int .u8 14), .lit (.int .u8 19), .lit (.int .u8 9), .lit (.int .u8 13), .lit (.int .u8 8), .lit (.int .u8 7), .lit (.int .u8 6)]
def laid_internal_strconv_uint64pow10 {H : Type} : DataW H := .agg [.lit (.int .u64 1), .lit (.int .u64 10), .lit (.int .u64 100), .lit (.int .u64 1000), .lit (.int .u64 10000), .lit (.int .u64 100000), .lit (.int .u64 1000000), .lit (.int .u64 10000000), .lit (.int .u64 100000000), .lit (.int .u64 1000000000), .lit (.int .u64 10000000000), .lit (.int .u64 100000000000), .lit (.int .u64 1000000000000), .lit (.int .u64 10000000000000), .lit (.int .u64 100000000000000), .lit (.int .u64 1000000000000000), .lit (.int .u64 10000000000000000), .lit (.int .u64 100000000000000000), .lit (.int .u64 1000000000000000000), .lit (.int .u64 10000000000000000000)]
def laid_weave_batch_ErrBatch {H : Type} : DataW H := .iface "*errors.errorString" (.ptr (.agg [.lit (.string [110, 111, 32, 98, 97, 116, 99, 104])]))
def laid_weave_batch_rules {H : Type} : DataW H := .agg [.agg [.lit (.int .i64 0), .lit (.int .i64 0), .lit (.int .i64 0), .lit (.int .i64 0), .lit (.int .i64 0), .lit (.int .i64 0)], .agg [.lit (.int .i64 0), .lit (.int .i64 (-1000)), .lit (.int .i64 1000), .lit (.int .i64 0), .lit (.int .i64 0), .lit (.int .i64 0)], .agg [.lit (.int .i64 1), .lit (.int .i64 0), .lit (.int .i64 255), .lit (.int .i64 0), .lit (.int .i64 0), .lit (.int .i64 0)], .agg [.lit (.int .i64 1), .lit (.int .i64 0), .lit (.int .i64 0), .lit (.int .i64 0), .lit (.int .i64 1), .lit (.int .i64 150)], .agg [.lit (.int .i64 2), .lit (.int .i64 0), .lit (.int .i64 255), .lit (.int .i64 0), .lit (.int .i64 0), .lit (.int .i64 150)], .agg [.lit (.int .i64 3), .lit (.int .i64 0), .lit (.int .i64 255), .lit (.int .i64 1), .lit (.int .i64 0), .lit (.int .i64 0)], .agg [.lit (.int .i64 3), .lit (.int .i64 0), .lit (.int .i64 0), .lit (.int .i64 2), .lit (.int .i64 0), .lit (.int .i64 0)]]
def laid_weave_digest_ErrLength {H : Type} : DataW H := .iface "*errors.errorString" (.ptr (.agg [.lit (.string [97, 32, 100, 105, 103, 101, 115, 116, 32, 111, 102, 32, 97, 110, 111, 116, 104, 101, 114, 32, 108, 101, 110, 103, 116, 104])]))
def laid_weave_digest_ErrSum {H : Type} : DataW H := .iface "*errors.errorString" (.ptr (.agg [.lit (.string [97, 32, 100, 105, 103, 101, 115, 116, 32, 119, 104, 111, 115, 101, 32, 115, 117, 109, 32, 105, 115, 32, 110, 111, 116, 32, 114, 105, 103, 104, 116])]))
def laid_weave_frames_ErrLength {H : Type} : DataW H := .iface "*errors.errorString" (.ptr (.agg [.lit (.string [97, 110, 111, 116, 104, 101, 114, 32, 108, 101, 110, 103, 116, 104, 32, 116, 104, 97, 110, 32, 116, 104, 101, 32, 102, 114, 97, 109, 101, 32, 116, 101, 108, 108, 115])]))
def laid_weave_frames_ErrSum {H : Type} : DataW H := .iface "*errors.errorString" (.ptr (.agg [.lit (.string [116, 104, 101, 32, 115, 117, 109, 32, 105, 115, 32, 110, 111, 116, 32, 114, 105, 103, 104, 116])]))
def laid_weave_frames_ErrCut {H : Type} : DataW H := .iface "*errors.errorString" (.ptr (.agg [.lit (.string [116, 104, 101, 32, 99, 111, 110, 116, 101, 110, 116, 32, 101, 110, 100, 115, 32, 116, 111, 111, 32, 101, 97, 114, 108, 121])]))
def laid_weave_frames_ErrRest {H : Type} : DataW H := .iface "*errors.errorString" (.ptr (.agg [.lit (.string [98, 121, 116, 101, 115, 32, 98, 101, 104, 105, 110, 100, 32, 116, 104, 101, 32, 99, 111, 110, 116, 101, 110, 116])]))

/-- 'weavekeep.Agree': WHATEVER THE INPUT: true; the input reads as it did. -/
def agreeSpec : ChangeSpec := { name := "agree", fn := fun _ => fun
  | [d1, d2] => { results := [.lit (.bool true)], args := [d1, d2] }
  | _ => none }
def agreeRow : OpenClaim := { program := "ytfmcngncaffloabgreatdoor", sum := "4b1e88dd2363a80ca95428f42be8436ff9f2a787eaaa7a0d59ae47543294861d", func := "weave/weavekeep.Agree", spec := "agree", unfollowed := true, recurses := true, named := ["weave/batch.ErrBatch", "weave/batch.rules", "internal/strconv.uint64pow10", "math/bits.deBruijn32tab", "math/bits.deBruijn64tab", "weave/frames.ErrRest", "weave/frames.ErrLength", "weave/frames.ErrSum", "weave/frames.ErrCut", "weave/digest.ErrLength", "weave/digest.ErrSum"], plainKeys := false, apart := false, laid := [("math/bits.deBruijn32tab", laid_math_bits_deBruijn32tab), ("math/bits.deBruijn64tab", laid_math_bits_deBruijn64tab), ("internal/strconv.uint64pow10", laid_internal_strconv_uint64pow10), ("weave/batch.ErrBatch", laid_weave_batch_ErrBatch), ("weave/batch.rules", laid_weave_batch_rules), ("weave/digest.ErrLength", laid_weave_digest_ErrLength), ("weave/digest.ErrSum", laid_weave_digest_ErrSum), ("weave/frames.ErrLength", laid_weave_frames_ErrLength), ("weave/frames.ErrSum", laid_weave_frames_ErrSum), ("weave/frames.ErrCut", laid_weave_frames_ErrCut), ("weave/frames.ErrRest", laid_weave_frames_ErrRest)] }
def AgreeSaid : Prop := agreeRow.holds Tryz.pinned (OpenSpec.ofChange agreeSpec)

/-- ITS FALSE NEIGHBOUR: 'it returns false'. Refute it at one input. -/
def agreeWrong : ChangeSpec := { name := "agree", fn := fun _ => fun
  | [d1, d2] => { results := [.lit (.bool false)], args := [d1, d2] }
  | _ => none }
def AgreeWrongFalsely : Prop := agreeRow.holds Tryz.pinned (OpenSpec.ofChange agreeWrong)

/-- 'weavekeep.Whole': WHATEVER THE INPUT: true; the input reads as it did. -/
def wholeSpec : ChangeSpec := { name := "whole", fn := fun _ => fun
  | [d1, d2] => { results := [.lit (.bool true)], args := [d1, d2] }
  | _ => none }
def wholeRow : OpenClaim := { program := "ytfmcngncaffloabgreatdoor", sum := "4b1e88dd2363a80ca95428f42be8436ff9f2a787eaaa7a0d59ae47543294861d", func := "weave/weavekeep.Whole", spec := "whole", unfollowed := true, recurses := true, named := ["weave/batch.ErrBatch", "weave/batch.rules", "internal/strconv.uint64pow10", "math/bits.deBruijn32tab", "math/bits.deBruijn64tab", "weave/frames.ErrRest", "weave/frames.ErrLength", "weave/frames.ErrSum", "weave/frames.ErrCut", "weave/digest.ErrLength", "weave/digest.ErrSum"], plainKeys := false, apart := false, laid := [("math/bits.deBruijn32tab", laid_math_bits_deBruijn32tab), ("math/bits.deBruijn64tab", laid_math_bits_deBruijn64tab), ("internal/strconv.uint64pow10", laid_internal_strconv_uint64pow10), ("weave/batch.ErrBatch", laid_weave_batch_ErrBatch), ("weave/batch.rules", laid_weave_batch_rules), ("weave/digest.ErrLength", laid_weave_digest_ErrLength), ("weave/digest.ErrSum", laid_weave_digest_ErrSum), ("weave/frames.ErrLength", laid_weave_frames_ErrLength), ("weave/frames.ErrSum", laid_weave_frames_ErrSum), ("weave/frames.ErrCut", laid_weave_frames_ErrCut), ("weave/frames.ErrRest", laid_weave_frames_ErrRest)] }
def WholeSaid : Prop := wholeRow.holds Tryz.pinned (OpenSpec.ofChange wholeSpec)

/-- ITS FALSE NEIGHBOUR: 'it returns false'. Refute it at one input. -/
def wholeWrong : ChangeSpec := { name := "whole", fn := fun _ => fun
  | [d1, d2] => { results := [.lit (.bool false)], args := [d1, d2] }
  | _ => none }
def WholeWrongFalsely : Prop := wholeRow.holds Tryz.pinned (OpenSpec.ofChange wholeWrong)

/-- 'weavekeep.Refused': WHATEVER THE INPUT: true; the input reads as it did. -/
def refusedSpec : ChangeSpec := { name := "refused", fn := fun _ => fun
  | [d1, d2, d3] => { results := [.lit (.bool true)], args := [d1, d2, d3] }
  | _ => none }
def refusedRow : OpenClaim := { program := "ytfmcngncaffloabgreatdoor", sum := "4b1e88dd2363a80ca95428f42be8436ff9f2a787eaaa7a0d59ae47543294861d", func := "weave/weavekeep.Refused", spec := "refused", unfollowed := true, recurses := true, named := ["weave/batch.ErrBatch", "weave/batch.rules", "internal/strconv.uint64pow10", "math/bits.deBruijn32tab", "math/bits.deBruijn64tab", "weave/frames.ErrRest", "weave/frames.ErrLength", "weave/frames.ErrSum", "weave/frames.ErrCut", "weave/digest.ErrLength", "weave/digest.ErrSum"], plainKeys := false, apart := false, laid := [("math/bits.deBruijn32tab", laid_math_bits_deBruijn32tab), ("math/bits.deBruijn64tab", laid_math_bits_deBruijn64tab), ("internal/strconv.uint64pow10", laid_internal_strconv_uint64pow10), ("weave/batch.ErrBatch", laid_weave_batch_ErrBatch), ("weave/batch.rules", laid_weave_batch_rules), ("weave/digest.ErrLength", laid_weave_digest_ErrLength), ("weave/digest.ErrSum", laid_weave_digest_ErrSum), ("weave/frames.ErrLength", laid_weave_frames_ErrLength), ("weave/frames.ErrSum", laid_weave_frames_ErrSum), ("weave/frames.ErrCut", laid_weave_frames_ErrCut), ("weave/frames.ErrRest", laid_weave_frames_ErrRest)] }
def RefusedSaid : Prop := refusedRow.holds Tryz.pinned (OpenSpec.ofChange refusedSpec)

/-- ITS FALSE NEIGHBOUR: 'it returns false'. Refute it at one input. -/
def refusedWrong : ChangeSpec := { name := "refused", fn := fun _ => fun
  | [d1, d2, d3] => { results := [.lit (.bool false)], args := [d1, d2, d3] }
  | _ => none }
def RefusedWrongFalsely : Prop := refusedRow.holds Tryz.pinned (OpenSpec.ofChange refusedWrong)

/-- 'weavelaw.All': WHATEVER THE INPUT: true; the input reads as it did. -/
def allSpec : ChangeSpec := { name := "all", fn := fun _ => fun
  | [d] => { results := [.lit (.bool true)], args := [d] }
  | _ => none }
def allRow : OpenClaim := { program := "ytfmcngncaffloabgreatdoor", sum := "4b1e88dd2363a80ca95428f42be8436ff9f2a787eaaa7a0d59ae47543294861d", func := "weave/weavelaw.All", spec := "all", unfollowed := true, recurses := true, named := ["weave/batch.ErrBatch", "weave/batch.rules", "internal/strconv.uint64pow10", "math/bits.deBruijn32tab", "math/bits.deBruijn64tab", "weave/frames.ErrRest", "weave/frames.ErrLength", "weave/frames.ErrSum", "weave/frames.ErrCut", "weave/digest.ErrLength", "weave/digest.ErrSum"], plainKeys := false, apart := false, laid := [("math/bits.deBruijn32tab", laid_math_bits_deBruijn32tab), ("math/bits.deBruijn64tab", laid_math_bits_deBruijn64tab), ("internal/strconv.uint64pow10", laid_internal_strconv_uint64pow10), ("weave/batch.ErrBatch", laid_weave_batch_ErrBatch), ("weave/batch.rules", laid_weave_batch_rules), ("weave/digest.ErrLength", laid_weave_digest_ErrLength), ("weave/digest.ErrSum", laid_weave_digest_ErrSum), ("weave/frames.ErrLength", laid_weave_frames_ErrLength), ("weave/frames.ErrSum", laid_weave_frames_ErrSum), ("weave/frames.ErrCut", laid_weave_frames_ErrCut), ("weave/frames.ErrRest", laid_weave_frames_ErrRest)] }
def AllSaid : Prop := allRow.holds Tryz.pinned (OpenSpec.ofChange allSpec)

/-- ITS FALSE NEIGHBOUR: 'it returns false'. Refute it at one input. -/
def allWrong : ChangeSpec := { name := "all", fn := fun _ => fun
  | [d] => { results := [.lit (.bool false)], args := [d] }
  | _ => none }
def AllWrongFalsely : Prop := allRow.holds Tryz.pinned (OpenSpec.ofChange allWrong)

/- THE SECOND FORM. 'bulk': how many values and letters a reading holds, each counted each time it is reached (what is shared counts as often as it is met; a slice's spare places count too). A statement '..UptoSaid' is the law's where the arguments, and the package variables that the reading takes, are together of bulk at most 1048576: NARROWER than '..Said'. Prove '..Said' where nothing that the law and all that it calls make is longer than what came in: it says more and counts as full. Else prove '..UptoSaid'. A law counts once. -/
mutual
def uptoBulk {H : Type} : DataW H → Nat
  | .lit (.string bytes) => bytes.length + 1
  | .lit _ => 1
  | .nil => 1
  | .ptr d => uptoBulk d + 1
  | .slice elems spare => uptoBulkAll elems + uptoBulkAll spare + 1
  | .agg parts => uptoBulkAll parts + 1
  | .iface _ d => uptoBulk d + 1
  | .map entries => uptoBulkEntries entries + 1
  | .held _ => 1
def uptoBulkAll {H : Type} : List (DataW H) → Nat
  | [] => 0
  | d :: r => uptoBulk d + uptoBulkAll r
def uptoBulkEntries {H : Type} : List (Lit × DataW H) → Nat
  | [] => 0
  | x :: r => uptoBulkEntry x + uptoBulkEntries r
def uptoBulkEntry {H : Type} : Lit × DataW H → Nat
  | (.string bytes, d) => bytes.length + uptoBulk d + 1
  | (_, d) => uptoBulk d + 1
 end
def uptoSmall : (H : Type) → List (DataW H) → Bool := fun _ ds => decide (uptoBulkAll ds ≤ 1048576)
def OpenSpec.upto (s : _root_.Go.ChangeSpec) : _root_.Go.OpenSpec := { _root_.Go.OpenSpec.ofChange s with cond := some uptoSmall }

/-- 'weavekeep.Agree', WHERE WHAT IT READS IS OF BULK AT MOST 1048576: true; the input reads as it did. -/
def agreeUptoRow : OpenClaim := { program := "ytfmcngncaffloabgreatdoor", sum := "4b1e88dd2363a80ca95428f42be8436ff9f2a787eaaa7a0d59ae47543294861d", func := "weave/weavekeep.Agree", spec := "agree", unfollowed := true, recurses := true, named := ["weave/batch.ErrBatch", "weave/batch.rules", "internal/strconv.uint64pow10", "math/bits.deBruijn32tab", "math/bits.deBruijn64tab", "weave/frames.ErrRest", "weave/frames.ErrLength", "weave/frames.ErrSum", "weave/frames.ErrCut", "weave/digest.ErrLength", "weave/digest.ErrSum"], plainKeys := false, apart := false, laid := [("math/bits.deBruijn32tab", laid_math_bits_deBruijn32tab), ("math/bits.deBruijn64tab", laid_math_bits_deBruijn64tab), ("internal/strconv.uint64pow10", laid_internal_strconv_uint64pow10), ("weave/batch.ErrBatch", laid_weave_batch_ErrBatch), ("weave/batch.rules", laid_weave_batch_rules), ("weave/digest.ErrLength", laid_weave_digest_ErrLength), ("weave/digest.ErrSum", laid_weave_digest_ErrSum), ("weave/frames.ErrLength", laid_weave_frames_ErrLength), ("weave/frames.ErrSum", laid_weave_frames_ErrSum), ("weave/frames.ErrCut", laid_weave_frames_ErrCut), ("weave/frames.ErrRest", laid_weave_frames_ErrRest)], narrowed := true }
def AgreeUptoSaid : Prop := agreeUptoRow.holds Tryz.pinned (OpenSpec.upto agreeSpec)

/-- 'weavekeep.Whole', WHERE WHAT IT READS IS OF BULK AT MOST 1048576: true; the input reads as it did. -/
def wholeUptoRow : OpenClaim := { program := "ytfmcngncaffloabgreatdoor", sum := "4b1e88dd2363a80ca95428f42be8436ff9f2a787eaaa7a0d59ae47543294861d", func := "weave/weavekeep.Whole", spec := "whole", unfollowed := true, recurses := true, named := ["weave/batch.ErrBatch", "weave/batch.rules", "internal/strconv.uint64pow10", "math/bits.deBruijn32tab", "math/bits.deBruijn64tab", "weave/frames.ErrRest", "weave/frames.ErrLength", "weave/frames.ErrSum", "weave/frames.ErrCut", "weave/digest.ErrLength", "weave/digest.ErrSum"], plainKeys := false, apart := false, laid := [("math/bits.deBruijn32tab", laid_math_bits_deBruijn32tab), ("math/bits.deBruijn64tab", laid_math_bits_deBruijn64tab), ("internal/strconv.uint64pow10", laid_internal_strconv_uint64pow10), ("weave/batch.ErrBatch", laid_weave_batch_ErrBatch), ("weave/batch.rules", laid_weave_batch_rules), ("weave/digest.ErrLength", laid_weave_digest_ErrLength), ("weave/digest.ErrSum", laid_weave_digest_ErrSum), ("weave/frames.ErrLength", laid_weave_frames_ErrLength), ("weave/frames.ErrSum", laid_weave_frames_ErrSum), ("weave/frames.ErrCut", laid_weave_frames_ErrCut), ("weave/frames.ErrRest", laid_weave_frames_ErrRest)], narrowed := true }
def WholeUptoSaid : Prop := wholeUptoRow.holds Tryz.pinned (OpenSpec.upto wholeSpec)

/-- 'weavekeep.Refused', WHERE WHAT IT READS IS OF BULK AT MOST 1048576: true; the input reads as it did. -/
def refusedUptoRow : OpenClaim := { program := "ytfmcngncaffloabgreatdoor", sum := "4b1e88dd2363a80ca95428f42be8436ff9f2a787eaaa7a0d59ae47543294861d", func := "weave/weavekeep.Refused", spec := "refused", unfollowed := true, recurses := true, named := ["weave/batch.ErrBatch", "weave/batch.rules", "internal/strconv.uint64pow10", "math/bits.deBruijn32tab", "math/bits.deBruijn64tab", "weave/frames.ErrRest", "weave/frames.ErrLength", "weave/frames.ErrSum", "weave/frames.ErrCut", "weave/digest.ErrLength", "weave/digest.ErrSum"], plainKeys := false, apart := false, laid := [("math/bits.deBruijn32tab", laid_math_bits_deBruijn32tab), ("math/bits.deBruijn64tab", laid_math_bits_deBruijn64tab), ("internal/strconv.uint64pow10", laid_internal_strconv_uint64pow10), ("weave/batch.ErrBatch", laid_weave_batch_ErrBatch), ("weave/batch.rules", laid_weave_batch_rules), ("weave/digest.ErrLength", laid_weave_digest_ErrLength), ("weave/digest.ErrSum", laid_weave_digest_ErrSum), ("weave/frames.ErrLength", laid_weave_frames_ErrLength), ("weave/frames.ErrSum", laid_weave_frames_ErrSum), ("weave/frames.ErrCut", laid_weave_frames_ErrCut), ("weave/frames.ErrRest", laid_weave_frames_ErrRest)], narrowed := true }
def RefusedUptoSaid : Prop := refusedUptoRow.holds Tryz.pinned (OpenSpec.upto refusedSpec)

/-- 'weavelaw.All', WHERE WHAT IT READS IS OF BULK AT MOST 1048576: true; the input reads as it did. -/
def allUptoRow : OpenClaim := { program := "ytfmcngncaffloabgreatdoor", sum := "4b1e88dd2363a80ca95428f42be8436ff9f2a787eaaa7a0d59ae47543294861d", func := "weave/weavelaw.All", spec := "all", unfollowed := true, recurses := true, named := ["weave/batch.ErrBatch", "weave/batch.rules", "internal/strconv.uint64pow10", "math/bits.deBruijn32tab", "math/bits.deBruijn64tab", "weave/frames.ErrRest", "weave/frames.ErrLength", "weave/frames.ErrSum", "weave/frames.ErrCut", "weave/digest.ErrLength", "weave/digest.ErrSum"], plainKeys := false, apart := false, laid := [("math/bits.deBruijn32tab", laid_math_bits_deBruijn32tab), ("math/bits.deBruijn64tab", laid_math_bits_deBruijn64tab), ("internal/strconv.uint64pow10", laid_internal_strconv_uint64pow10), ("weave/batch.ErrBatch", laid_weave_batch_ErrBatch), ("weave/batch.rules", laid_weave_batch_rules), ("weave/digest.ErrLength", laid_weave_digest_ErrLength), ("weave/digest.ErrSum", laid_weave_digest_ErrSum), ("weave/frames.ErrLength", laid_weave_frames_ErrLength), ("weave/frames.ErrSum", laid_weave_frames_ErrSum), ("weave/frames.ErrCut", laid_weave_frames_ErrCut), ("weave/frames.ErrRest", laid_weave_frames_ErrRest)], narrowed := true }
def AllUptoSaid : Prop := allUptoRow.holds Tryz.pinned (OpenSpec.upto allSpec)

end Rows
end Go.Proofs.YtfmcngncaffloabGreatDoor
