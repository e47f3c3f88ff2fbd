import Derived.Test.YtfmcngncaffloaaGreatDoorG11DecD
namespace Go.Proofs.YtfmcngncaffloaaGreatDoor
open Go.RowKit
set_option maxRecDepth 100000
abbrev bat0:Array Value:= #[.int .i64 0, .int .i64 0, .int .i64 0, .slice none 0 0, .slice none 0 0]
structure Bw(w w0 wi:World)(g E:Nat)(c:List UInt8)(q:Wv.St)(es:Array Value):Prop where
 rd:Rd wi g c q
 grown:w.grownBy wi (some g)
 below:Below w0.heap.size w0 wi
 kR:Blk wi w.heap.size bat0 124
 kE:Blk wi E es 124
 lt:w.heap.size<E
 lg:g<w.heap.size
 gg:w0.heap.size<=g
abbrev put5 (w:World) (R:Nat) (a0 a1 a2 a3 a4:Value):World:=((((w.setCell ⟨R,0,none⟩ a0).setCell ⟨R,1,none⟩ a1).setCell ⟨R,2,none⟩ a2).setCell ⟨R,3,none⟩ a3).setCell ⟨R,4,none⟩ a4
theorem ztg(w:World)(R:Nat)(a0 a1 a2 a3 a4:Value)(k:Nat)(h:k ≠ R):(put5 w R a0 a1 a2 a3 a4).heap[k]?=w.heap[k]?:=by
 unfold put5
 rw [heap_setCell_other _ ⟨R,4,none⟩ k _ h,heap_setCell_other _ ⟨R,3,none⟩ k _ h,heap_setCell_other _ ⟨R,2,none⟩ k _ h,heap_setCell_other _ ⟨R,1,none⟩ k _ h,heap_setCell_other _ ⟨R,0,none⟩ k _ h]
theorem zwc{w:World}{R:Nat}(h:Blk w R bat0 124)(a0 a1 a2 a3 a4:Value):Blk (put5 w R a0 a1 a2 a3 a4) R #[a0,a1,a2,a3,a4] 124:=
 ((((h.set 0 a0).set 1 a1).set 2 a2).set 3 a3).set 4 a4
theorem infoEf:(Tryz.prog.info? 149).map (fun i=>(i.zero,i.size,i.bytes))=some (some (.agg #[.int .i64 0, .int .i64 0, .int .i64 0, .int .i64 0, .int .i64 0, .int .i64 0, .slice none 0 0]),7,72):=by kernel_rfl
theorem int_one(z:Int):∀u∈ [I z],u.oneCell'=true:=by
 intro u hu
 simp only [List.mem_cons,List.mem_nil_iff,or_false] at hu
 rw [hu];rfl
theorem em_one(m:Em):∀u∈m.cells,u.oneCell'=true:=by
 intro u hu
 simp only [Em.cells,Em.dv,List.mem_cons,List.mem_nil_iff,or_false] at hu
 rcases hu with rfl | rfl | rfl | rfl | rfl | rfl | rfl<;>rfl
structure OwB(w:World)(base:Nat)(vC vE:Value)(cl:List Int)(ms:List Em):Prop where
 clock:w.ownsRow base 3 1 vC cl.length (cl.map I)
 cells:w.ownsRow base 149 7 vE ms.length (flat Em.cells ms)
 dots:∀m∈ms,w.ownsRow base 146 3 m.dv m.e.dots.length (flat zab m.e.dots)
 ce:∀g,vC.ownBlock=some g->vE.ownBlock ≠ some g
 cd:∀m∈ms,∀g,m.dv.ownBlock=some g->vC.ownBlock ≠ some g∧vE.ownBlock ≠ some g
 dd:ms.Pairwise fun m m'=>∀g,m.dv.ownBlock=some g->m'.dv.ownBlock ≠ some g
end Go.Proofs.YtfmcngncaffloaaGreatDoor
