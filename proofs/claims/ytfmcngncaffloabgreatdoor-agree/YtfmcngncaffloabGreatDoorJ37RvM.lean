import Derived.Test.YtfmcngncaffloabGreatDoorJ36RvI
namespace Go.Proofs.YtfmcngncaffloabGreatDoor
open Go.RowKit
set_option maxRecDepth 100000
def sumK(ks:List Mk):Int:=(ks.map (·.m.e.va)).sum
def setK(ks:List Mk):List Int:=((List.range 256).map (fun v:Nat=>(v:Int))).filter (fun v=>(livK ks 2 3).any (fun k=>decide (k.m.e.va=v)))
def zoc(ks:List Mk)(r:Nat):List Int:=match r with
 | 0=> [sumK ks]
 | 1=>setK ks
 | 2=>(livK ks 4 4).map (·.m.e.va)
 | _=>(zik ks).map (·.m.e.va)
def badV(a:Int):Prop:=a<0∨255<a
instance (a:Int):Decidable (badV a):=by unfold badV;infer_instance
