import Derived.Test.YtfmcngncaffloabGreatDoorJ34VwA
namespace Go.Proofs.YtfmcngncaffloabGreatDoor
open Go.RowKit
set_option maxRecDepth 100000
structure BatsAt(w:World)(a:Option Addr)(bs:List Bm):Prop where
 row:At w a (flat Bm.cells bs)
 bats:∀b∈bs,BatAt w b.b b.ca b.ea b.ms
