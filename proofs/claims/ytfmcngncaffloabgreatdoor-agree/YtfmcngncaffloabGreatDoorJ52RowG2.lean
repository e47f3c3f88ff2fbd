import Derived.Test.YtfmcngncaffloabGreatDoorJ51RowG1
namespace Go.Proofs.YtfmcngncaffloabGreatDoor.Agd
open Go.ChangeShapes Go.WideShapes Go.ChangeAt Go.RowKit
set_option maxRecDepth 100000
def litV:DataW Unit->Value
 | .lit (.int k z)=> .int k z
 | _=> .int .i64 0
def rowV:DataW Unit->Array Value
 | .agg l=>(l.map litV).toArray
 | _=> #[]
def textV:DataW Unit->Value
 | .iface _ (.ptr (.agg [.lit (.string t)]))=> .string ⟨t.toArray⟩
 | _=> .string ⟨#[]⟩
noncomputable def low:Nat:=(World.holding Tryz.prog default ⟨#[], #[], []⟩).heap.size
def lay(cs:Array Value):Obj->Obj
 | .cells _ t frozen=> .cells cs t frozen
 | o=>o
def sent(d:DataW Unit):Obj:= .cells #[textV d] 380
noncomputable def ptr (n:Nat):Obj->Obj:=lay #[.iface 299 (.pointer (some ⟨low+n,0,none⟩))]
noncomputable def laidWorld (os:Os):World:=
 let w0:=World.holding Tryz.prog os ⟨#[sent Rows.laid_weave_batch_ErrBatch,sent Rows.laid_weave_digest_ErrLength,sent Rows.laid_weave_digest_ErrSum,sent Rows.laid_weave_frames_ErrLength,sent Rows.laid_weave_frames_ErrSum,sent Rows.laid_weave_frames_ErrCut,sent Rows.laid_weave_frames_ErrRest], #[], []⟩
 {w0 with heap:=((((((((((w0.heap.modify 9 (lay (rowV Rows.laid_math_bits_deBruijn32tab))).modify 10 (lay (rowV Rows.laid_math_bits_deBruijn64tab))).modify 8 (lay (rowV Rows.laid_internal_strconv_uint64pow10))).modify 1 (lay (Wv.tab.map I).toArray)).modify 0 (ptr 0)).modify 3 (ptr 1)).modify 4 (ptr 2)).modify 5 (ptr 3)).modify 6 (ptr 4)).modify 7 (ptr 5)).modify 2 (ptr 6)}
abbrev noArgs:Array Value:= #[I 0, .slice none 0 0]
abbrev noDat {H:Type}:List (DataW H):= [.lit (.int .i64 0), .nil]
theorem zz0(os:Os):laidMet Tryz.prog Rows.agreeRow.laid ((laidWorld os).forCall (fun _ _=>0) ⟨#[],noArgs, []⟩).memory:=
 laidMet_of_run' 8 (by kernel_rfl) (by kernel_rfl)
theorem reads(os:Os){H:Type}(enc:TypeId×Value->H):∃places,DataW.whole enc Tryz.prog ((laidWorld os).forCall (fun _ _=>0) ⟨#[],noArgs, []⟩).memory Tryz.f3.params.toList Rows.agreeSpec.vars false noArgs.toList 8=some (noDat, [],places):=
 ⟨[],by kernel_rfl⟩
theorem lifted(os:Os)(started:os.Started)(H:Type)(enc:TypeId×Value->H)(F:Stop.Interp):
  ReturnsInHanded {} Tryz.checked os 3 .any ((OpenSpec.ofChange Rows.agreeSpec).preRow enc Tryz.prog Tryz.f3 Rows.agreeRow.domain false Rows.agreeRow.laid) (((OpenSpec.ofChange Rows.agreeSpec).at F).post enc Tryz.prog Tryz.f3 false true false false):=by
 obtain⟨places,hx⟩:=reads os enc
 refine returnsInHanded_of_row (C:=Tryz.checked) (s:=OpenSpec.ofChange Rows.agreeSpec) own started (by kernel_rfl) Tryz.func3
  (witness_row_at (enc:=enc) (C:=Tryz.checked) false (laidWorld os) noArgs rfl (by kernel_rfl) (by kernel_rfl) (by kernel_rfl)
   (OpenSpec.preRow_of_cond 8 hx (by kernel_rfl) (fun k hk=>by cases hk) (by kernel_rfl) (zz0 os))) ?_
 intro W base args ds gs before hval hW _ _ hwt hL _ _;exact contract H enc W base args ds gs before hval hW hL _ hwt
end Go.Proofs.YtfmcngncaffloabGreatDoor.Agd
