/-
  NARROWER THAN 'FOR EVERY INPUT', by the rows' own cells (each row's printed sentence says how): Alone: laid · Own: laid · Spread: laid · Merged: laid · Causal: laid · Works: laid · Reads: laid · Clocks: laid · Ways: laid.
  DERIVED. THE GIVEN ROWS OF THIS SEAT. 9 by the template 'for every input the law returns true; each argument reads behind the call as it read before'; 0 by the template 'total and deterministic' (their statements: YtfmcngncaffloaaGreatDoorTotals.lean).
  GIVEN WITH THE SEED: the statements are not yours to turn. If you find one false, say at which input.
  Laid BY PROGRAM, IN A SANDBOX (cutbox-rows.mjs): the forced cells as the released guide's own fill.sh prints them over the translation ab89d8b68bdf886f… (all of the seat's roots in one cut). By AI agents, Wed Nov 11 2026. No macro, syntax, notation, axiom, sorry.
-/
import Derived.Test.YtfmcngncaffloaaGreatDoorChecked
import GoSem.Claim
import GoSem.ClaimJoined
import GoSem.ClaimMapViews
import Derived.JoinedTies
import Derived.KernelRfl
namespace Go.Proofs.YtfmcngncaffloaaGreatDoor
/- THE CELL 'sum', in the pinned program and in every row, IS THE sha256 OF THE DUMP (.gsa) THAT YtfmcngncaffloaaGreatDoorProg.lean LOADS. Nothing in Lean hashes anything: it is a label: what it is worth is what the hold of that sum in a sandbox is worth. -/
noncomputable def Tryz.pinned : Pinned := { name := "ytfmcngncaffloaagreatdoor", sum := "ab89d8b68bdf886f052f69cea3a7bb53c5cb67c6b347860f3ba2cfb83a98dcf9", checked := Tryz.checked }
namespace Rows
def none {H : Type} : Left H := { results := [], args := [] }

/- WHAT THE LISTED PACKAGE-LEVEL VARIABLES READ AS WHEN THE CALL BEGINS. Each datum BY PROGRAM (the guide's laid-datum.mjs) off the statement by which the dump's own 'gosem.cut.vars' lays the variable. In a bare row this is a premise. The card (YtfmcngncaffloaaGreatDoorCards.lean) ties it to the program's text. -/
def laid_math_bits_deBruijn32tab {H : Type} : DataW H := .agg [.lit (.int .u8 0), .lit (.int .u8 1), .lit (.int .u8 28), .lit (.int .u8 2), .lit (.int .u8 29), .lit (.int .u8 14), .lit (.int .u8 24), .lit (.int .u8 3), .lit (.int .u8 30), .lit (.int .u8 22), .lit (.int .u8 20), .lit (.int .u8 15), .lit (.int .u8 25), .lit (.int .u8 17), .lit (.int .u8 4), .lit (.int .u8 8), .lit (.int .u8 31), .lit (.int .u8 27), .lit (.int .u8 13), .lit (.int .u8 23), .lit (.int .u8 21), .lit (.int .u8 19), .lit (.int .u8 16), .lit (.int .u8 7), .lit (.int .u8 26), .lit (.int .u8 12), .lit (.int .u8 18), .lit (.int .u8 6), .lit (.int .u8 11), .lit (.int .u8 5), .lit (.int .u8 10), .lit (.int .u8 9)]
def laid_math_bits_deBruijn64tab {H : Type} : DataW H := .agg [.lit (.int .u8 0), .lit (.int .u8 1), .lit (.int .u8 56), .lit (.int .u8 2), .lit (.int .u8 57), .lit (.int .u8 49), .lit (.int .u8 28), .lit (.int .u8 3), .lit (.int .u8 61), .lit (.int .u8 58), .lit (.int .u8 42), .lit (.int .u8 50), .lit (.int .u8 38), .lit (.int .u8 29), .lit (.int .u8 17), .lit (.int .u8 4), .lit (.int .u8 62), .lit (.int .u8 47), .lit (.int .u8 59), .lit (.int .u8 36), .lit (.int .u8 45), .lit (.int .u8 43), .lit (.int .u8 51), .lit (.int .u8 22), .lit (.int .u8 53), .lit (.int .u8 39), .lit (.int .u8 33), .lit (.int .u8 30), .lit (.int .u8 24), .lit (.int .u8 18), .lit (.int .u8 12), .lit (.int .u8 5), .lit (.int .u8 63), .lit (.int .u8 55), .lit (.int .u8 48), .lit (.int .u8 27), .lit (.int .u8 60), .lit (.int .u8 41), .lit (.int .u8 37), .lit (.int .u8 16), .lit (.int .u8 46), .lit (.int .u8 35), .lit (.int .u8 44), .lit (.int .u8 21), .lit (.int .u8 52), .lit (.int .u8 32), .lit (.int .u8 23), .lit (.int .u8 11), .lit (.int .u8 54), .lit (.int .u8 26), .lit (.int .u8 40), .lit (.int .u8 15), .lit (.int .u8 34), .lit (.int .u8 20), .lit (.int .u8 31), .lit (.int .u8 10), .lit (.int .u8 25), .lit (.int .u8 14), .lit (.int .u8 19), .lit (.int .u8 9), .lit (.int .u8 13), .lit (.int .u8 8), .lit (.int .u8 7), .lit (.int .u8 6)]
def laid_internal_strconv_uint64pow10 {H : Type} : DataW H := .agg [.lit (.int .u64 1), .lit (.int .u64 10), .lit (.int .u64 100), .lit (.int .u64 1000), .lit (.int .u64 10000), .lit (.int .u64 100000), .lit (.int .u64 1000000), .lit (.int .u64 10000000), .lit (.int .u64 100000000), .lit (.int .u64 1000000000), .lit (.int .u64 10000000000), .lit (.int .u64 100000000000), .lit (.int .u64 1000000000000), .lit (.int .u64 10000000000000), .lit (.int .u64 100000000000000), .lit (.int .u64 1000000000000000), .lit (.int .u64 10000000000000000), .lit (.int .u64 100000000000000000), .lit (.int .u64 1000000000000000000), .lit (.int .u64 10000000000000000000)]
def laid_weave_batch_ErrBatch {H : Type} : DataW H := .iface "*errors.errorString" (.ptr (.agg [.lit (.string [110, 111, 32, 98, 97, 116, 99, 104])]))
def laid_weave_batch_rules {H : Type} : DataW H := .agg [.agg [.lit (.int .i64 0), .lit (.int .i64 0), .lit (.int .i64 0), .lit (.int .i64 0), .lit (.int .i64 0), .lit (.int .i64 0)], .agg [.lit (.int .i64 0), .lit (.int .i64 (-1000)), .lit (.int .i64 1000), .lit (.int .i64 0), .lit (.int .i64 0), .lit (.int .i64 0)], .agg [.lit (.int .i64 1), .lit (.int .i64 0), .lit (.int .i64 255), .lit (.int .i64 0), .lit (.int .i64 0), .lit (.int .i64 0)], .agg [.lit (.int .i64 1), .lit (.int .i64 0), .lit (.int .i64 0), .lit (.int .i64 0), .lit (.int .i64 1), .lit (.int .i64 150)], .agg [.lit (.int .i64 2), .lit (.int .i64 0), .lit (.int .i64 255), .lit (.int .i64 0), .lit (.int .i64 0), .lit (.int .i64 150)], .agg [.lit (.int .i64 3), .lit (.int .i64 0), .lit (.int .i64 255), .lit (.int .i64 1), .lit (.int .i64 0), .lit (.int .i64 0)], .agg [.lit (.int .i64 3), .lit (.int .i64 0), .lit (.int .i64 0), .lit (.int .i64 2), .lit (.int .i64 0), .lit (.int .i64 0)]]
def laid_weave_digest_ErrLength {H : Type} : DataW H := .iface "*errors.errorString" (.ptr (.agg [.lit (.string [97, 32, 100, 105, 103, 101, 115, 116, 32, 111, 102, 32, 97, 110, 111, 116, 104, 101, 114, 32, 108, 101, 110, 103, 116, 104])]))
def laid_weave_digest_ErrSum {H : Type} : DataW H := .iface "*errors.errorString" (.ptr (.agg [.lit (.string [97, 32, 100, 105, 103, 101, 115, 116, 32, 119, 104, 111, 115, 101, 32, 115, 117, 109, 32, 105, 115, 32, 110, 111, 116, 32, 114, 105, 103, 104, 116])]))
def laid_weave_frames_ErrLength {H : Type} : DataW H := .iface "*errors.errorString" (.ptr (.agg [.lit (.string [97, 110, 111, 116, 104, 101, 114, 32, 108, 101, 110, 103, 116, 104, 32, 116, 104, 97, 110, 32, 116, 104, 101, 32, 102, 114, 97, 109, 101, 32, 116, 101, 108, 108, 115])]))
def laid_weave_frames_ErrSum {H : Type} : DataW H := .iface "*errors.errorString" (.ptr (.agg [.lit (.string [116, 104, 101, 32, 115, 117, 109, 32, 105, 115, 32, 110, 111, 116, 32, 114, 105, 103, 104, 116])]))
def laid_weave_frames_ErrCut {H : Type} : DataW H := .iface "*errors.errorString" (.ptr (.agg [.lit (.string [116, 104, 101, 32, 99, 111, 110, 116, 101, 110, 116, 32, 101, 110, 100, 115, 32, 116, 111, 111, 32, 101, 97, 114, 108, 121])]))
def laid_weave_frames_ErrRest {H : Type} : DataW H := .iface "*errors.errorString" (.ptr (.agg [.lit (.string [98, 121, 116, 101, 115, 32, 98, 101, 104, 105, 110, 100, 32, 116, 104, 101, 32, 99, 111, 110, 116, 101, 110, 116])]))

/-- 'weavelaw.Alone': WHATEVER THE INPUT: true; the input reads as it did. -/
def aloneSpec : ChangeSpec := { name := "alone", fn := fun _ => fun
  | [d] => { results := [.lit (.bool true)], args := [d] }
  | _ => none }
def aloneRow : OpenClaim := { program := "ytfmcngncaffloaagreatdoor", sum := "ab89d8b68bdf886f052f69cea3a7bb53c5cb67c6b347860f3ba2cfb83a98dcf9", func := "weave/weavelaw.Alone", spec := "alone", unfollowed := true, recurses := true, named := ["weave/batch.ErrBatch", "weave/batch.rules", "internal/strconv.uint64pow10", "math/bits.deBruijn32tab", "math/bits.deBruijn64tab", "weave/frames.ErrRest", "weave/frames.ErrLength", "weave/frames.ErrSum", "weave/frames.ErrCut", "weave/digest.ErrLength", "weave/digest.ErrSum"], plainKeys := false, apart := false, laid := [("math/bits.deBruijn32tab", laid_math_bits_deBruijn32tab), ("math/bits.deBruijn64tab", laid_math_bits_deBruijn64tab), ("internal/strconv.uint64pow10", laid_internal_strconv_uint64pow10), ("weave/batch.ErrBatch", laid_weave_batch_ErrBatch), ("weave/batch.rules", laid_weave_batch_rules), ("weave/digest.ErrLength", laid_weave_digest_ErrLength), ("weave/digest.ErrSum", laid_weave_digest_ErrSum), ("weave/frames.ErrLength", laid_weave_frames_ErrLength), ("weave/frames.ErrSum", laid_weave_frames_ErrSum), ("weave/frames.ErrCut", laid_weave_frames_ErrCut), ("weave/frames.ErrRest", laid_weave_frames_ErrRest)] }
def AloneSaid : Prop := aloneRow.holds Tryz.pinned (OpenSpec.ofChange aloneSpec)

/-- ITS FALSE NEIGHBOUR: 'it returns false'. Refute it at one input. -/
def aloneWrong : ChangeSpec := { name := "alone", fn := fun _ => fun
  | [d] => { results := [.lit (.bool false)], args := [d] }
  | _ => none }
def AloneWrongFalsely : Prop := aloneRow.holds Tryz.pinned (OpenSpec.ofChange aloneWrong)

/-- 'weavekeep.Own': WHATEVER THE INPUT: true; the input reads as it did. -/
def ownSpec : ChangeSpec := { name := "own", fn := fun _ => fun
  | [d1, d2, d3] => { results := [.lit (.bool true)], args := [d1, d2, d3] }
  | _ => none }
def ownRow : OpenClaim := { program := "ytfmcngncaffloaagreatdoor", sum := "ab89d8b68bdf886f052f69cea3a7bb53c5cb67c6b347860f3ba2cfb83a98dcf9", func := "weave/weavekeep.Own", spec := "own", unfollowed := true, recurses := true, named := ["weave/batch.ErrBatch", "weave/batch.rules", "internal/strconv.uint64pow10", "math/bits.deBruijn32tab", "math/bits.deBruijn64tab"], plainKeys := false, apart := false, laid := [("math/bits.deBruijn32tab", laid_math_bits_deBruijn32tab), ("math/bits.deBruijn64tab", laid_math_bits_deBruijn64tab), ("internal/strconv.uint64pow10", laid_internal_strconv_uint64pow10), ("weave/batch.ErrBatch", laid_weave_batch_ErrBatch), ("weave/batch.rules", laid_weave_batch_rules)] }
def OwnSaid : Prop := ownRow.holds Tryz.pinned (OpenSpec.ofChange ownSpec)

/-- ITS FALSE NEIGHBOUR: 'it returns false'. Refute it at one input. -/
def ownWrong : ChangeSpec := { name := "own", fn := fun _ => fun
  | [d1, d2, d3] => { results := [.lit (.bool false)], args := [d1, d2, d3] }
  | _ => none }
def OwnWrongFalsely : Prop := ownRow.holds Tryz.pinned (OpenSpec.ofChange ownWrong)

/-- 'weavelaw.Spread': WHATEVER THE INPUT: true; the input reads as it did. -/
def spreadSpec : ChangeSpec := { name := "spread", fn := fun _ => fun
  | [d] => { results := [.lit (.bool true)], args := [d] }
  | _ => none }
def spreadRow : OpenClaim := { program := "ytfmcngncaffloaagreatdoor", sum := "ab89d8b68bdf886f052f69cea3a7bb53c5cb67c6b347860f3ba2cfb83a98dcf9", func := "weave/weavelaw.Spread", spec := "spread", unfollowed := true, recurses := true, named := ["weave/batch.ErrBatch", "weave/batch.rules", "internal/strconv.uint64pow10", "math/bits.deBruijn32tab", "math/bits.deBruijn64tab", "weave/frames.ErrRest", "weave/frames.ErrLength", "weave/frames.ErrSum", "weave/frames.ErrCut", "weave/digest.ErrLength", "weave/digest.ErrSum"], plainKeys := false, apart := false, laid := [("math/bits.deBruijn32tab", laid_math_bits_deBruijn32tab), ("math/bits.deBruijn64tab", laid_math_bits_deBruijn64tab), ("internal/strconv.uint64pow10", laid_internal_strconv_uint64pow10), ("weave/batch.ErrBatch", laid_weave_batch_ErrBatch), ("weave/batch.rules", laid_weave_batch_rules), ("weave/digest.ErrLength", laid_weave_digest_ErrLength), ("weave/digest.ErrSum", laid_weave_digest_ErrSum), ("weave/frames.ErrLength", laid_weave_frames_ErrLength), ("weave/frames.ErrSum", laid_weave_frames_ErrSum), ("weave/frames.ErrCut", laid_weave_frames_ErrCut), ("weave/frames.ErrRest", laid_weave_frames_ErrRest)] }
def SpreadSaid : Prop := spreadRow.holds Tryz.pinned (OpenSpec.ofChange spreadSpec)

/-- ITS FALSE NEIGHBOUR: 'it returns false'. Refute it at one input. -/
def spreadWrong : ChangeSpec := { name := "spread", fn := fun _ => fun
  | [d] => { results := [.lit (.bool false)], args := [d] }
  | _ => none }
def SpreadWrongFalsely : Prop := spreadRow.holds Tryz.pinned (OpenSpec.ofChange spreadWrong)

/-- 'weavekeep.Merged': WHATEVER THE INPUT: true; the input reads as it did. -/
def mergedSpec : ChangeSpec := { name := "merged", fn := fun _ => fun
  | [d1, d2, d3, d4] => { results := [.lit (.bool true)], args := [d1, d2, d3, d4] }
  | _ => none }
def mergedRow : OpenClaim := { program := "ytfmcngncaffloaagreatdoor", sum := "ab89d8b68bdf886f052f69cea3a7bb53c5cb67c6b347860f3ba2cfb83a98dcf9", func := "weave/weavekeep.Merged", spec := "merged", unfollowed := true, recurses := true, named := ["weave/batch.ErrBatch", "weave/batch.rules", "internal/strconv.uint64pow10", "math/bits.deBruijn32tab", "math/bits.deBruijn64tab", "weave/frames.ErrRest", "weave/frames.ErrLength", "weave/frames.ErrSum", "weave/frames.ErrCut", "weave/digest.ErrLength", "weave/digest.ErrSum"], plainKeys := false, apart := false, laid := [("math/bits.deBruijn32tab", laid_math_bits_deBruijn32tab), ("math/bits.deBruijn64tab", laid_math_bits_deBruijn64tab), ("internal/strconv.uint64pow10", laid_internal_strconv_uint64pow10), ("weave/batch.ErrBatch", laid_weave_batch_ErrBatch), ("weave/batch.rules", laid_weave_batch_rules), ("weave/digest.ErrLength", laid_weave_digest_ErrLength), ("weave/digest.ErrSum", laid_weave_digest_ErrSum), ("weave/frames.ErrLength", laid_weave_frames_ErrLength), ("weave/frames.ErrSum", laid_weave_frames_ErrSum), ("weave/frames.ErrCut", laid_weave_frames_ErrCut), ("weave/frames.ErrRest", laid_weave_frames_ErrRest)] }
def MergedSaid : Prop := mergedRow.holds Tryz.pinned (OpenSpec.ofChange mergedSpec)

/-- ITS FALSE NEIGHBOUR: 'it returns false'. Refute it at one input. -/
def mergedWrong : ChangeSpec := { name := "merged", fn := fun _ => fun
  | [d1, d2, d3, d4] => { results := [.lit (.bool false)], args := [d1, d2, d3, d4] }
  | _ => none }
def MergedWrongFalsely : Prop := mergedRow.holds Tryz.pinned (OpenSpec.ofChange mergedWrong)

/-- 'weavekeep.Causal': WHATEVER THE INPUT: true; the input reads as it did. -/
def causalSpec : ChangeSpec := { name := "causal", fn := fun _ => fun
  | [d1, d2, d3, d4] => { results := [.lit (.bool true)], args := [d1, d2, d3, d4] }
  | _ => none }
def causalRow : OpenClaim := { program := "ytfmcngncaffloaagreatdoor", sum := "ab89d8b68bdf886f052f69cea3a7bb53c5cb67c6b347860f3ba2cfb83a98dcf9", func := "weave/weavekeep.Causal", spec := "causal", unfollowed := true, recurses := true, named := ["weave/batch.ErrBatch", "weave/batch.rules", "internal/strconv.uint64pow10", "math/bits.deBruijn32tab", "math/bits.deBruijn64tab", "weave/frames.ErrRest", "weave/frames.ErrLength", "weave/frames.ErrSum", "weave/frames.ErrCut", "weave/digest.ErrLength", "weave/digest.ErrSum"], plainKeys := false, apart := false, laid := [("math/bits.deBruijn32tab", laid_math_bits_deBruijn32tab), ("math/bits.deBruijn64tab", laid_math_bits_deBruijn64tab), ("internal/strconv.uint64pow10", laid_internal_strconv_uint64pow10), ("weave/batch.ErrBatch", laid_weave_batch_ErrBatch), ("weave/batch.rules", laid_weave_batch_rules), ("weave/digest.ErrLength", laid_weave_digest_ErrLength), ("weave/digest.ErrSum", laid_weave_digest_ErrSum), ("weave/frames.ErrLength", laid_weave_frames_ErrLength), ("weave/frames.ErrSum", laid_weave_frames_ErrSum), ("weave/frames.ErrCut", laid_weave_frames_ErrCut), ("weave/frames.ErrRest", laid_weave_frames_ErrRest)] }
def CausalSaid : Prop := causalRow.holds Tryz.pinned (OpenSpec.ofChange causalSpec)

/-- ITS FALSE NEIGHBOUR: 'it returns false'. Refute it at one input. -/
def causalWrong : ChangeSpec := { name := "causal", fn := fun _ => fun
  | [d1, d2, d3, d4] => { results := [.lit (.bool false)], args := [d1, d2, d3, d4] }
  | _ => none }
def CausalWrongFalsely : Prop := causalRow.holds Tryz.pinned (OpenSpec.ofChange causalWrong)

/-- 'weavelaw.Works': WHATEVER THE INPUT: true; the input reads as it did. -/
def worksSpec : ChangeSpec := { name := "works", fn := fun _ => fun
  | [d] => { results := [.lit (.bool true)], args := [d] }
  | _ => none }
def worksRow : OpenClaim := { program := "ytfmcngncaffloaagreatdoor", sum := "ab89d8b68bdf886f052f69cea3a7bb53c5cb67c6b347860f3ba2cfb83a98dcf9", func := "weave/weavelaw.Works", spec := "works", unfollowed := true, recurses := true, named := ["weave/batch.ErrBatch", "weave/batch.rules", "internal/strconv.uint64pow10", "math/bits.deBruijn32tab", "math/bits.deBruijn64tab", "weave/frames.ErrRest", "weave/frames.ErrLength", "weave/frames.ErrSum", "weave/frames.ErrCut", "weave/digest.ErrLength", "weave/digest.ErrSum"], plainKeys := false, apart := false, laid := [("math/bits.deBruijn32tab", laid_math_bits_deBruijn32tab), ("math/bits.deBruijn64tab", laid_math_bits_deBruijn64tab), ("internal/strconv.uint64pow10", laid_internal_strconv_uint64pow10), ("weave/batch.ErrBatch", laid_weave_batch_ErrBatch), ("weave/batch.rules", laid_weave_batch_rules), ("weave/digest.ErrLength", laid_weave_digest_ErrLength), ("weave/digest.ErrSum", laid_weave_digest_ErrSum), ("weave/frames.ErrLength", laid_weave_frames_ErrLength), ("weave/frames.ErrSum", laid_weave_frames_ErrSum), ("weave/frames.ErrCut", laid_weave_frames_ErrCut), ("weave/frames.ErrRest", laid_weave_frames_ErrRest)] }
def WorksSaid : Prop := worksRow.holds Tryz.pinned (OpenSpec.ofChange worksSpec)

/-- ITS FALSE NEIGHBOUR: 'it returns false'. Refute it at one input. -/
def worksWrong : ChangeSpec := { name := "works", fn := fun _ => fun
  | [d] => { results := [.lit (.bool false)], args := [d] }
  | _ => none }
def WorksWrongFalsely : Prop := worksRow.holds Tryz.pinned (OpenSpec.ofChange worksWrong)

/-- 'weavelaw.Reads': WHATEVER THE INPUT: true; the input reads as it did. -/
def readsSpec : ChangeSpec := { name := "reads", fn := fun _ => fun
  | [d] => { results := [.lit (.bool true)], args := [d] }
  | _ => none }
def readsRow : OpenClaim := { program := "ytfmcngncaffloaagreatdoor", sum := "ab89d8b68bdf886f052f69cea3a7bb53c5cb67c6b347860f3ba2cfb83a98dcf9", func := "weave/weavelaw.Reads", spec := "reads", unfollowed := true, recurses := true, named := ["weave/batch.ErrBatch", "weave/batch.rules", "internal/strconv.uint64pow10", "math/bits.deBruijn32tab", "math/bits.deBruijn64tab", "weave/frames.ErrRest", "weave/frames.ErrLength", "weave/frames.ErrSum", "weave/frames.ErrCut", "weave/digest.ErrLength", "weave/digest.ErrSum"], plainKeys := false, apart := false, laid := [("math/bits.deBruijn32tab", laid_math_bits_deBruijn32tab), ("math/bits.deBruijn64tab", laid_math_bits_deBruijn64tab), ("internal/strconv.uint64pow10", laid_internal_strconv_uint64pow10), ("weave/batch.ErrBatch", laid_weave_batch_ErrBatch), ("weave/batch.rules", laid_weave_batch_rules), ("weave/digest.ErrLength", laid_weave_digest_ErrLength), ("weave/digest.ErrSum", laid_weave_digest_ErrSum), ("weave/frames.ErrLength", laid_weave_frames_ErrLength), ("weave/frames.ErrSum", laid_weave_frames_ErrSum), ("weave/frames.ErrCut", laid_weave_frames_ErrCut), ("weave/frames.ErrRest", laid_weave_frames_ErrRest)] }
def ReadsSaid : Prop := readsRow.holds Tryz.pinned (OpenSpec.ofChange readsSpec)

/-- ITS FALSE NEIGHBOUR: 'it returns false'. Refute it at one input. -/
def readsWrong : ChangeSpec := { name := "reads", fn := fun _ => fun
  | [d] => { results := [.lit (.bool false)], args := [d] }
  | _ => none }
def ReadsWrongFalsely : Prop := readsRow.holds Tryz.pinned (OpenSpec.ofChange readsWrong)

/-- 'weavelaw.Clocks': WHATEVER THE INPUT: true; the input reads as it did. -/
def clocksSpec : ChangeSpec := { name := "clocks", fn := fun _ => fun
  | [d] => { results := [.lit (.bool true)], args := [d] }
  | _ => none }
def clocksRow : OpenClaim := { program := "ytfmcngncaffloaagreatdoor", sum := "ab89d8b68bdf886f052f69cea3a7bb53c5cb67c6b347860f3ba2cfb83a98dcf9", func := "weave/weavelaw.Clocks", spec := "clocks", unfollowed := true, recurses := true, named := ["weave/batch.ErrBatch", "weave/batch.rules", "internal/strconv.uint64pow10", "math/bits.deBruijn32tab", "math/bits.deBruijn64tab", "weave/frames.ErrRest", "weave/frames.ErrLength", "weave/frames.ErrSum", "weave/frames.ErrCut", "weave/digest.ErrLength", "weave/digest.ErrSum"], plainKeys := false, apart := false, laid := [("math/bits.deBruijn32tab", laid_math_bits_deBruijn32tab), ("math/bits.deBruijn64tab", laid_math_bits_deBruijn64tab), ("internal/strconv.uint64pow10", laid_internal_strconv_uint64pow10), ("weave/batch.ErrBatch", laid_weave_batch_ErrBatch), ("weave/batch.rules", laid_weave_batch_rules), ("weave/digest.ErrLength", laid_weave_digest_ErrLength), ("weave/digest.ErrSum", laid_weave_digest_ErrSum), ("weave/frames.ErrLength", laid_weave_frames_ErrLength), ("weave/frames.ErrSum", laid_weave_frames_ErrSum), ("weave/frames.ErrCut", laid_weave_frames_ErrCut), ("weave/frames.ErrRest", laid_weave_frames_ErrRest)] }
def ClocksSaid : Prop := clocksRow.holds Tryz.pinned (OpenSpec.ofChange clocksSpec)

/-- ITS FALSE NEIGHBOUR: 'it returns false'. Refute it at one input. -/
def clocksWrong : ChangeSpec := { name := "clocks", fn := fun _ => fun
  | [d] => { results := [.lit (.bool false)], args := [d] }
  | _ => none }
def ClocksWrongFalsely : Prop := clocksRow.holds Tryz.pinned (OpenSpec.ofChange clocksWrong)

/-- 'weavelaw.Ways': WHATEVER THE INPUT: true; the input reads as it did. -/
def waysSpec : ChangeSpec := { name := "ways", fn := fun _ => fun
  | [d] => { results := [.lit (.bool true)], args := [d] }
  | _ => none }
def waysRow : OpenClaim := { program := "ytfmcngncaffloaagreatdoor", sum := "ab89d8b68bdf886f052f69cea3a7bb53c5cb67c6b347860f3ba2cfb83a98dcf9", func := "weave/weavelaw.Ways", spec := "ways", unfollowed := true, recurses := true, named := ["weave/batch.ErrBatch", "weave/batch.rules", "internal/strconv.uint64pow10", "math/bits.deBruijn32tab", "math/bits.deBruijn64tab", "weave/frames.ErrRest", "weave/frames.ErrLength", "weave/frames.ErrSum", "weave/frames.ErrCut", "weave/digest.ErrLength", "weave/digest.ErrSum"], plainKeys := false, apart := false, laid := [("math/bits.deBruijn32tab", laid_math_bits_deBruijn32tab), ("math/bits.deBruijn64tab", laid_math_bits_deBruijn64tab), ("internal/strconv.uint64pow10", laid_internal_strconv_uint64pow10), ("weave/batch.ErrBatch", laid_weave_batch_ErrBatch), ("weave/batch.rules", laid_weave_batch_rules), ("weave/digest.ErrLength", laid_weave_digest_ErrLength), ("weave/digest.ErrSum", laid_weave_digest_ErrSum), ("weave/frames.ErrLength", laid_weave_frames_ErrLength), ("weave/frames.ErrSum", laid_weave_frames_ErrSum), ("weave/frames.ErrCut", laid_weave_frames_ErrCut), ("weave/frames.ErrRest", laid_weave_frames_ErrRest)] }
def WaysSaid : Prop := waysRow.holds Tryz.pinned (OpenSpec.ofChange waysSpec)

/-- ITS FALSE NEIGHBOUR: 'it returns false'. Refute it at one input. -/
def waysWrong : ChangeSpec := { name := "ways", fn := fun _ => fun
  | [d] => { results := [.lit (.bool false)], args := [d] }
  | _ => none }
def WaysWrongFalsely : Prop := waysRow.holds Tryz.pinned (OpenSpec.ofChange waysWrong)

/- THE SECOND FORM. 'bulk': how many values and letters a reading holds, each counted each time it is reached (what is shared counts as often as it is met; a slice's spare places count too). A statement '..UptoSaid' is the law's where the arguments, and the package variables that the reading takes, are together of bulk at most 1048576: NARROWER than '..Said'. Prove '..Said' where nothing that the law and all that it calls make is longer than what came in: it says more and counts as full. Else prove '..UptoSaid'. A law counts once. -/
mutual
def uptoBulk {H : Type} : DataW H → Nat
  | .lit (.string bytes) => bytes.length + 1
  | .lit _ => 1
  | .nil => 1
  | .ptr d => uptoBulk d + 1
  | .slice elems spare => uptoBulkAll elems + uptoBulkAll spare + 1
  | .agg parts => uptoBulkAll parts + 1
  | .iface _ d => uptoBulk d + 1
  | .map entries => uptoBulkEntries entries + 1
  | .held _ => 1
def uptoBulkAll {H : Type} : List (DataW H) → Nat
  | [] => 0
  | d :: r => uptoBulk d + uptoBulkAll r
def uptoBulkEntries {H : Type} : List (Lit × DataW H) → Nat
  | [] => 0
  | x :: r => uptoBulkEntry x + uptoBulkEntries r
def uptoBulkEntry {H : Type} : Lit × DataW H → Nat
  | (.string bytes, d) => bytes.length + uptoBulk d + 1
  | (_, d) => uptoBulk d + 1
 end
def uptoSmall : (H : Type) → List (DataW H) → Bool := fun _ ds => decide (uptoBulkAll ds ≤ 1048576)
def OpenSpec.upto (s : _root_.Go.ChangeSpec) : _root_.Go.OpenSpec := { _root_.Go.OpenSpec.ofChange s with cond := some uptoSmall }

/-- 'weavelaw.Alone', WHERE WHAT IT READS IS OF BULK AT MOST 1048576: true; the input reads as it did. -/
def aloneUptoRow : OpenClaim := { program := "ytfmcngncaffloaagreatdoor", sum := "ab89d8b68bdf886f052f69cea3a7bb53c5cb67c6b347860f3ba2cfb83a98dcf9", func := "weave/weavelaw.Alone", spec := "alone", unfollowed := true, recurses := true, named := ["weave/batch.ErrBatch", "weave/batch.rules", "internal/strconv.uint64pow10", "math/bits.deBruijn32tab", "math/bits.deBruijn64tab", "weave/frames.ErrRest", "weave/frames.ErrLength", "weave/frames.ErrSum", "weave/frames.ErrCut", "weave/digest.ErrLength", "weave/digest.ErrSum"], plainKeys := false, apart := false, laid := [("math/bits.deBruijn32tab", laid_math_bits_deBruijn32tab), ("math/bits.deBruijn64tab", laid_math_bits_deBruijn64tab), ("internal/strconv.uint64pow10", laid_internal_strconv_uint64pow10), ("weave/batch.ErrBatch", laid_weave_batch_ErrBatch), ("weave/batch.rules", laid_weave_batch_rules), ("weave/digest.ErrLength", laid_weave_digest_ErrLength), ("weave/digest.ErrSum", laid_weave_digest_ErrSum), ("weave/frames.ErrLength", laid_weave_frames_ErrLength), ("weave/frames.ErrSum", laid_weave_frames_ErrSum), ("weave/frames.ErrCut", laid_weave_frames_ErrCut), ("weave/frames.ErrRest", laid_weave_frames_ErrRest)], narrowed := true }
def AloneUptoSaid : Prop := aloneUptoRow.holds Tryz.pinned (OpenSpec.upto aloneSpec)

/-- 'weavekeep.Own', WHERE WHAT IT READS IS OF BULK AT MOST 1048576: true; the input reads as it did. -/
def ownUptoRow : OpenClaim := { program := "ytfmcngncaffloaagreatdoor", sum := "ab89d8b68bdf886f052f69cea3a7bb53c5cb67c6b347860f3ba2cfb83a98dcf9", func := "weave/weavekeep.Own", spec := "own", unfollowed := true, recurses := true, named := ["weave/batch.ErrBatch", "weave/batch.rules", "internal/strconv.uint64pow10", "math/bits.deBruijn32tab", "math/bits.deBruijn64tab"], plainKeys := false, apart := false, laid := [("math/bits.deBruijn32tab", laid_math_bits_deBruijn32tab), ("math/bits.deBruijn64tab", laid_math_bits_deBruijn64tab), ("internal/strconv.uint64pow10", laid_internal_strconv_uint64pow10), ("weave/batch.ErrBatch", laid_weave_batch_ErrBatch), ("weave/batch.rules", laid_weave_batch_rules)], narrowed := true }
def OwnUptoSaid : Prop := ownUptoRow.holds Tryz.pinned (OpenSpec.upto ownSpec)

/-- 'weavelaw.Spread', WHERE WHAT IT READS IS OF BULK AT MOST 1048576: true; the input reads as it did. -/
def spreadUptoRow : OpenClaim := { program := "ytfmcngncaffloaagreatdoor", sum := "ab89d8b68bdf886f052f69cea3a7bb53c5cb67c6b347860f3ba2cfb83a98dcf9", func := "weave/weavelaw.Spread", spec := "spread", unfollowed := true, recurses := true, named := ["weave/batch.ErrBatch", "weave/batch.rules", "internal/strconv.uint64pow10", "math/bits.deBruijn32tab", "math/bits.deBruijn64tab", "weave/frames.ErrRest", "weave/frames.ErrLength", "weave/frames.ErrSum", "weave/frames.ErrCut", "weave/digest.ErrLength", "weave/digest.ErrSum"], plainKeys := false, apart := false, laid := [("math/bits.deBruijn32tab", laid_math_bits_deBruijn32tab), ("math/bits.deBruijn64tab", laid_math_bits_deBruijn64tab), ("internal/strconv.uint64pow10", laid_internal_strconv_uint64pow10), ("weave/batch.ErrBatch", laid_weave_batch_ErrBatch), ("weave/batch.rules", laid_weave_batch_rules), ("weave/digest.ErrLength", laid_weave_digest_ErrLength), ("weave/digest.ErrSum", laid_weave_digest_ErrSum), ("weave/frames.ErrLength", laid_weave_frames_ErrLength), ("weave/frames.ErrSum", laid_weave_frames_ErrSum), ("weave/frames.ErrCut", laid_weave_frames_ErrCut), ("weave/frames.ErrRest", laid_weave_frames_ErrRest)], narrowed := true }
def SpreadUptoSaid : Prop := spreadUptoRow.holds Tryz.pinned (OpenSpec.upto spreadSpec)

/-- 'weavekeep.Merged', WHERE WHAT IT READS IS OF BULK AT MOST 1048576: true; the input reads as it did. -/
def mergedUptoRow : OpenClaim := { program := "ytfmcngncaffloaagreatdoor", sum := "ab89d8b68bdf886f052f69cea3a7bb53c5cb67c6b347860f3ba2cfb83a98dcf9", func := "weave/weavekeep.Merged", spec := "merged", unfollowed := true, recurses := true, named := ["weave/batch.ErrBatch", "weave/batch.rules", "internal/strconv.uint64pow10", "math/bits.deBruijn32tab", "math/bits.deBruijn64tab", "weave/frames.ErrRest", "weave/frames.ErrLength", "weave/frames.ErrSum", "weave/frames.ErrCut", "weave/digest.ErrLength", "weave/digest.ErrSum"], plainKeys := false, apart := false, laid := [("math/bits.deBruijn32tab", laid_math_bits_deBruijn32tab), ("math/bits.deBruijn64tab", laid_math_bits_deBruijn64tab), ("internal/strconv.uint64pow10", laid_internal_strconv_uint64pow10), ("weave/batch.ErrBatch", laid_weave_batch_ErrBatch), ("weave/batch.rules", laid_weave_batch_rules), ("weave/digest.ErrLength", laid_weave_digest_ErrLength), ("weave/digest.ErrSum", laid_weave_digest_ErrSum), ("weave/frames.ErrLength", laid_weave_frames_ErrLength), ("weave/frames.ErrSum", laid_weave_frames_ErrSum), ("weave/frames.ErrCut", laid_weave_frames_ErrCut), ("weave/frames.ErrRest", laid_weave_frames_ErrRest)], narrowed := true }
def MergedUptoSaid : Prop := mergedUptoRow.holds Tryz.pinned (OpenSpec.upto mergedSpec)

/-- 'weavekeep.Causal', WHERE WHAT IT READS IS OF BULK AT MOST 1048576: true; the input reads as it did. -/
def causalUptoRow : OpenClaim := { program := "ytfmcngncaffloaagreatdoor", sum := "ab89d8b68bdf886f052f69cea3a7bb53c5cb67c6b347860f3ba2cfb83a98dcf9", func := "weave/weavekeep.Causal", spec := "causal", unfollowed := true, recurses := true, named := ["weave/batch.ErrBatch", "weave/batch.rules", "internal/strconv.uint64pow10", "math/bits.deBruijn32tab", "math/bits.deBruijn64tab", "weave/frames.ErrRest", "weave/frames.ErrLength", "weave/frames.ErrSum", "weave/frames.ErrCut", "weave/digest.ErrLength", "weave/digest.ErrSum"], plainKeys := false, apart := false, laid := [("math/bits.deBruijn32tab", laid_math_bits_deBruijn32tab), ("math/bits.deBruijn64tab", laid_math_bits_deBruijn64tab), ("internal/strconv.uint64pow10", laid_internal_strconv_uint64pow10), ("weave/batch.ErrBatch", laid_weave_batch_ErrBatch), ("weave/batch.rules", laid_weave_batch_rules), ("weave/digest.ErrLength", laid_weave_digest_ErrLength), ("weave/digest.ErrSum", laid_weave_digest_ErrSum), ("weave/frames.ErrLength", laid_weave_frames_ErrLength), ("weave/frames.ErrSum", laid_weave_frames_ErrSum), ("weave/frames.ErrCut", laid_weave_frames_ErrCut), ("weave/frames.ErrRest", laid_weave_frames_ErrRest)], narrowed := true }
def CausalUptoSaid : Prop := causalUptoRow.holds Tryz.pinned (OpenSpec.upto causalSpec)

/-- 'weavelaw.Works', WHERE WHAT IT READS IS OF BULK AT MOST 1048576: true; the input reads as it did. -/
def worksUptoRow : OpenClaim := { program := "ytfmcngncaffloaagreatdoor", sum := "ab89d8b68bdf886f052f69cea3a7bb53c5cb67c6b347860f3ba2cfb83a98dcf9", func := "weave/weavelaw.Works", spec := "works", unfollowed := true, recurses := true, named := ["weave/batch.ErrBatch", "weave/batch.rules", "internal/strconv.uint64pow10", "math/bits.deBruijn32tab", "math/bits.deBruijn64tab", "weave/frames.ErrRest", "weave/frames.ErrLength", "weave/frames.ErrSum", "weave/frames.ErrCut", "weave/digest.ErrLength", "weave/digest.ErrSum"], plainKeys := false, apart := false, laid := [("math/bits.deBruijn32tab", laid_math_bits_deBruijn32tab), ("math/bits.deBruijn64tab", laid_math_bits_deBruijn64tab), ("internal/strconv.uint64pow10", laid_internal_strconv_uint64pow10), ("weave/batch.ErrBatch", laid_weave_batch_ErrBatch), ("weave/batch.rules", laid_weave_batch_rules), ("weave/digest.ErrLength", laid_weave_digest_ErrLength), ("weave/digest.ErrSum", laid_weave_digest_ErrSum), ("weave/frames.ErrLength", laid_weave_frames_ErrLength), ("weave/frames.ErrSum", laid_weave_frames_ErrSum), ("weave/frames.ErrCut", laid_weave_frames_ErrCut), ("weave/frames.ErrRest", laid_weave_frames_ErrRest)], narrowed := true }
def WorksUptoSaid : Prop := worksUptoRow.holds Tryz.pinned (OpenSpec.upto worksSpec)

/-- 'weavelaw.Reads', WHERE WHAT IT READS IS OF BULK AT MOST 1048576: true; the input reads as it did. -/
def readsUptoRow : OpenClaim := { program := "ytfmcngncaffloaagreatdoor", sum := "ab89d8b68bdf886f052f69cea3a7bb53c5cb67c6b347860f3ba2cfb83a98dcf9", func := "weave/weavelaw.Reads", spec := "reads", unfollowed := true, recurses := true, named := ["weave/batch.ErrBatch", "weave/batch.rules", "internal/strconv.uint64pow10", "math/bits.deBruijn32tab", "math/bits.deBruijn64tab", "weave/frames.ErrRest", "weave/frames.ErrLength", "weave/frames.ErrSum", "weave/frames.ErrCut", "weave/digest.ErrLength", "weave/digest.ErrSum"], plainKeys := false, apart := false, laid := [("math/bits.deBruijn32tab", laid_math_bits_deBruijn32tab), ("math/bits.deBruijn64tab", laid_math_bits_deBruijn64tab), ("internal/strconv.uint64pow10", laid_internal_strconv_uint64pow10), ("weave/batch.ErrBatch", laid_weave_batch_ErrBatch), ("weave/batch.rules", laid_weave_batch_rules), ("weave/digest.ErrLength", laid_weave_digest_ErrLength), ("weave/digest.ErrSum", laid_weave_digest_ErrSum), ("weave/frames.ErrLength", laid_weave_frames_ErrLength), ("weave/frames.ErrSum", laid_weave_frames_ErrSum), ("weave/frames.ErrCut", laid_weave_frames_ErrCut), ("weave/frames.ErrRest", laid_weave_frames_ErrRest)], narrowed := true }
def ReadsUptoSaid : Prop := readsUptoRow.holds Tryz.pinned (OpenSpec.upto readsSpec)

/-- 'weavelaw.Clocks', WHERE WHAT IT READS IS OF BULK AT MOST 1048576: true; the input reads as it did. -/
def clocksUptoRow : OpenClaim := { program := "ytfmcngncaffloaagreatdoor", sum := "ab89d8b68bdf886f052f69cea3a7bb53c5cb67c6b347860f3ba2cfb83a98dcf9", func := "weave/weavelaw.Clocks", spec := "clocks", unfollowed := true, recurses := true, named := ["weave/batch.ErrBatch", "weave/batch.rules", "internal/strconv.uint64pow10", "math/bits.deBruijn32tab", "math/bits.deBruijn64tab", "weave/frames.ErrRest", "weave/frames.ErrLength", "weave/frames.ErrSum", "weave/frames.ErrCut", "weave/digest.ErrLength", "weave/digest.ErrSum"], plainKeys := false, apart := false, laid := [("math/bits.deBruijn32tab", laid_math_bits_deBruijn32tab), ("math/bits.deBruijn64tab", laid_math_bits_deBruijn64tab), ("internal/strconv.uint64pow10", laid_internal_strconv_uint64pow10), ("weave/batch.ErrBatch", laid_weave_batch_ErrBatch), ("weave/batch.rules", laid_weave_batch_rules), ("weave/digest.ErrLength", laid_weave_digest_ErrLength), ("weave/digest.ErrSum", laid_weave_digest_ErrSum), ("weave/frames.ErrLength", laid_weave_frames_ErrLength), ("weave/frames.ErrSum", laid_weave_frames_ErrSum), ("weave/frames.ErrCut", laid_weave_frames_ErrCut), ("weave/frames.ErrRest", laid_weave_frames_ErrRest)], narrowed := true }
def ClocksUptoSaid : Prop := clocksUptoRow.holds Tryz.pinned (OpenSpec.upto clocksSpec)

/-- 'weavelaw.Ways', WHERE WHAT IT READS IS OF BULK AT MOST 1048576: true; the input reads as it did. -/
def waysUptoRow : OpenClaim := { program := "ytfmcngncaffloaagreatdoor", sum := "ab89d8b68bdf886f052f69cea3a7bb53c5cb67c6b347860f3ba2cfb83a98dcf9", func := "weave/weavelaw.Ways", spec := "ways", unfollowed := true, recurses := true, named := ["weave/batch.ErrBatch", "weave/batch.rules", "internal/strconv.uint64pow10", "math/bits.deBruijn32tab", "math/bits.deBruijn64tab", "weave/frames.ErrRest", "weave/frames.ErrLength", "weave/frames.ErrSum", "weave/frames.ErrCut", "weave/digest.ErrLength", "weave/digest.ErrSum"], plainKeys := false, apart := false, laid := [("math/bits.deBruijn32tab", laid_math_bits_deBruijn32tab), ("math/bits.deBruijn64tab", laid_math_bits_deBruijn64tab), ("internal/strconv.uint64pow10", laid_internal_strconv_uint64pow10), ("weave/batch.ErrBatch", laid_weave_batch_ErrBatch), ("weave/batch.rules", laid_weave_batch_rules), ("weave/digest.ErrLength", laid_weave_digest_ErrLength), ("weave/digest.ErrSum", laid_weave_digest_ErrSum), ("weave/frames.ErrLength", laid_weave_frames_ErrLength), ("weave/frames.ErrSum", laid_weave_frames_ErrSum), ("weave/frames.ErrCut", laid_weave_frames_ErrCut), ("weave/frames.ErrRest", laid_weave_frames_ErrRest)], narrowed := true }
def WaysUptoSaid : Prop := waysUptoRow.holds Tryz.pinned (OpenSpec.upto waysSpec)

end Rows
end Go.Proofs.YtfmcngncaffloaaGreatDoor
