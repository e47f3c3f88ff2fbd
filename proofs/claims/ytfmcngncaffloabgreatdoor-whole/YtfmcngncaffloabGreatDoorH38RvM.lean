import Derived.Test.YtfmcngncaffloabGreatDoorH37RvI
namespace Go.Proofs.YtfmcngncaffloabGreatDoor
open Go.RowKit
set_option maxRecDepth 100000
def badV(a:Int):Prop:=a<0∨255<a
instance (a:Int):Decidable (badV a):=by unfold badV;infer_instance
end Go.Proofs.YtfmcngncaffloabGreatDoor
