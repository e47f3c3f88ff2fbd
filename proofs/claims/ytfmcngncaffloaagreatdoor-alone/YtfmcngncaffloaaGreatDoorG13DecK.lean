import Derived.Test.YtfmcngncaffloaaGreatDoorG12DecF
namespace Go.Proofs.YtfmcngncaffloaaGreatDoor
open Go.RowKit
set_option maxRecDepth 100000
end Go.Proofs.YtfmcngncaffloaaGreatDoor
namespace Go.Proofs.YtfmcngncaffloaaGreatDoor.Wv
end Go.Proofs.YtfmcngncaffloaaGreatDoor.Wv
namespace Go.Proofs.YtfmcngncaffloaaGreatDoor
open Go.RowKit
set_option maxRecDepth 100000
structure Dw(w wA wi:World)(D base:Nat)(b:Wv.Bt)(ca ea:Option Addr)(cc ec:Nat)(ms:List Em):Prop where
 below:Below wA.heap.size wA wi
 kR:Blk wi w.heap.size #[.int .i64 0, .int .i64 0, .int .i64 0, .slice none 0 0, .slice none 0 0] 124
 kD:Blk wi D #[I b.o,I b.s,I b.t, .slice ca b.clock.length cc, .slice ea b.effs.length ec] 124
 ob:OwB wi base (.slice ca b.clock.length cc) (.slice ea b.effs.length ec) b.clock ms
 lt:w.heap.size<wA.heap.size
 ltb:wA.heap.size<base
 ltD:wA.heap.size<D
end Go.Proofs.YtfmcngncaffloaaGreatDoor
