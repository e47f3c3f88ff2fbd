import Derived.Test.YtfmcngncaffloaaGreatDoorG49GaP
set_option maxHeartbeats 800000
namespace Go.Proofs.YtfmcngncaffloaaGreatDoor
open Go.RowKit
set_option maxRecDepth 100000
theorem zu6(script:List Wop)(sa:Option Addr)(sc:Nat)(w0:World)(eb ef:Addr)(hg:Gl w0 eb ef)(hp:Pw w0)(hIt:zay)(hA:At w0 sa (flat Wop.list script))(hr:∀p∈script, -9223372036854775808<=p.s∧p.s<=9223372036854775807)(hl:script.length<=1048576):
  Calls Tryz.prog 3 #[.slice sa script.length sc] w0 fun e w'=>e= .returned (.bool true)∧Below w0.heap.size w0 w':=by
 have HC:Hid (Calls Tryz.prog 12 #[.slice sa script.length sc,I 7,I 8] w0 fun e w'=>e= .returned (.bool true)∧Below w0.heap.size w0 w'):=zud script sa sc w0 eb ef hg hp hIt hA hr hl
 clear hg hp hIt hA hr hl
 go_enter Tryz.func3,Tryz.ntmps3
 go_wp2_with fail
 refine HC.out.mono ?_
 rintro e w1 ⟨rfl,h1⟩
 have HB:Hid (Below w0.heap.size w0 w1):=h1
 clear h1 HC
 go_wp2
 go_ret
 exact⟨rfl,HB.out⟩
end Go.Proofs.YtfmcngncaffloaaGreatDoor
