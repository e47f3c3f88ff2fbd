import Derived.Test.YtfmcngncaffloabGreatDoorH34CsB
import Derived.Test.YtfmcngncaffloabGreatDoorH06CovA
import Derived.Laws.Rows
namespace Go.Proofs.YtfmcngncaffloabGreatDoor
open Go.RowKit
set_option maxRecDepth 100000
structure Mk where
 m:Em
 d:Wv.Dt
 t:Int
def Mk.cells(k:Mk):List Value:= [I k.m.e.op,I k.m.e.ob,I k.m.e.va,I k.m.e.ref.o,I k.m.e.ref.s,I k.m.e.ref.i, .slice k.m.da k.m.e.dots.length k.m.dc,I k.d.o,I k.d.s,I k.d.i,I k.t]
structure MksAt(w:World)(a:Option Addr)(ks:List Mk):Prop where
 row:At w a (flat Mk.cells ks)
 dots:∀k∈ks,At w k.m.da (flat zac k.m.e.dots)
def zq0(a b:Mk):Bool:=if a.t=b.t then(if a.d.o=b.d.o then decide (b.d.i<a.d.i) else decide (b.d.o<a.d.o)) else decide (b.t<a.t)
structure Fr(ks:List Mk)(x:Mk):Prop where
 d0:x.d ≠⟨0,0,0⟩
 nw:∀k∈ks,k.d ≠ x.d
 dt:∀k∈ks,x.d∉k.m.e.dots∧k.m.e.ref ≠ x.d
 dx:x.d∉x.m.e.dots∧x.m.e.ref ≠ x.d
 par:x.m.e.op=5->x.m.e.ref=⟨0,0,0⟩∨∃p∈ks,p.m.e.op=5∧p.d=x.m.e.ref∧zq0 x p=true
 tri:∀k∈ks,zq0 x k=true∨zq0 k x=true
 e6:x.m.e.op=6->x.m.e.dots= []
 v2:x.m.e.op=2->0<=x.m.e.va∧x.m.e.va<=255
inductive Mks:List Mk->Prop
 | nil:Mks []
 | snoc {ks:List Mk} {x:Mk} (h:Mks ks) (hx:Fr ks x):Mks (ks++ [x])
section
variable {ks : List Mk} {x : Mk}
end
end Go.Proofs.YtfmcngncaffloabGreatDoor
