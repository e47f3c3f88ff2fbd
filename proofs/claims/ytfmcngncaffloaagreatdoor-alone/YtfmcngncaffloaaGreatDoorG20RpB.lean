import Derived.Test.YtfmcngncaffloaaGreatDoorG19PoE
import Derived.Deep.RegionHeldLaw
import Derived.Conc.SmallLaws
set_option maxHeartbeats 800000
namespace Go.Proofs.YtfmcngncaffloaaGreatDoor
open Go.RowKit
set_option maxRecDepth 100000
theorem infoU:(Tryz.prog.info? 164).map (·.bytes)=some 0:=by kernel_rfl
theorem zz8(w:World):(Instr.makeChan 116 (.int .i64 40)).run Tryz.prog w= .ok (.chan (some w.heap.size)) (w.alloc (.chan 40 #[] false 0 0 false)):=by
 obtain⟨i,hi,hb⟩:=Option.map_eq_some_iff.1 infoU
 simpa using Go.Conc.run_makeChan (P:=Tryz.prog) (w:=w) Tryz.underlying116 hi .i64 40 (by omega) (by rw [hb];omega)
def PnewOk(w:World)(own:Clr)(c:Nat)(e:Ending)(w':World):Prop:=∃pp ch own',e= .returned (.pointer (some ⟨pp,0,none⟩))∧Below w.heap.size w w'∧Ext own own' w.heap.size∧PoIn w' own' c pp ch (.slice none 0 0) []
theorem zwf(own:Clr)(c:Nat)(w:World):
  Calls Tryz.prog 37 #[] w fun e w'=>PnewOk w own c e w':=by
 have hmc:=fun W=>zz8 W
 go_enter Tryz.func37,Tryz.ntmps37
 go_wp2
 go_ret
 refine⟨_,w.heap.size,newTo own w.heap.size c,rfl,((Below.refl _ _).alloc (Nat.le_refl _) _).alloc (by simp) _,zaf _ _ _,⟨?_,⟨#[],0,0, ?_,rfl⟩,⟨rfl, .inl ⟨rfl,rfl⟩⟩,zae _ _ _ _ (by simp),zae _ _ _ _ (Nat.le_refl _),fun g e=>(by simp [Value.ownBlock] at e),by simp⟩⟩
 ·have:=heap_alloc_new (w.alloc (.chan 40 #[] false 0 0 false)) (.cells #[.chan (some w.heap.size), .slice none 0 0] 119)
  rw [World.size_alloc] at this
  exact this
 ·rw [Below.heap_alloc _ _ _ (by simp)]
  exact(MapKept.heap_alloc w _).1
structure ClkAt(w:World)(p cg cc:Nat)(cl:List Int):Prop where
 cell:w.cell? ⟨p,2,none⟩=some (.slice (some ⟨cg,0,none⟩) cl.length cc)
 row:∀j (hj:j<cl.length),w.cell? ⟨cg,j,none⟩=some (I cl[j])
def dueB(cl:List Int)(b:Wv.Bt):Bool:=decide (b.clock.length=cl.length) && ((List.range b.clock.length).all fun j=>decide (b.clock.getD j 0<=cl.getD j 0)) && decide (b.s=cl.getD b.o.toNat 0+1)
theorem zy6(cl:List Int)(b:Wv.Bt)(h:b.clock.length=cl.length)(ha:∀j,j<b.clock.length->b.clock.getD j 0<=cl.getD j 0):dueB cl b=decide (b.s=cl.getD b.o.toNat 0+1):=by
 unfold dueB
 have:((List.range b.clock.length).all fun j=>decide (b.clock.getD j 0<=cl.getD j 0))=true:=by
  rw [List.all_eq_true]
  exact fun j hj=>by simpa using ha j (List.mem_range.1 hj)
 rw [this,h]
 simp
theorem zkq{α:Type}(bs:List α)(i j:Nat)(m:α)(h:m∈swapP bs i j):m∈bs:=by
 unfold swapP at h
 split at h
 ·rename_i x y hx hy
  rcases List.mem_or_eq_of_mem_set h with h | h
  ·rcases List.mem_or_eq_of_mem_set h with h | h
   ·exact h
   ·rw [h];exact List.mem_of_getElem? hy
  ·rw [h];exact List.mem_of_getElem? hx
 ·exact h
theorem zto{α:Type}(less:α->α->Bool)(bs:List α)(i:Nat)(m:α)(h:m∈sinkP less bs i):m∈bs:=by
 induction hn:bs.length - i using Nat.strongRecOn generalizing bs i with
 | _ n ih=>
  rw [sinkP] at h
  split at h
  ·rename_i hq
   have h1:=zeh less bs i
   have h2:=zeg less bs i hq.2
   have h3:=hq.1
   exact zkq bs i _ m (ih (bs.length - za2 less bs i) (by omega) (swapP bs i (za2 less bs i)) (za2 less bs i) h (by rw [zbk]))
  ·exact h
theorem zwq{α:Type}(less:α->α->Bool)(bs:List α)(m:α)(h:m∈(popR less bs).1.toList++(popR less bs).2):m∈bs:=by
 unfold popR at h
 cases bs with
 | nil=>simp [popP] at h
 | cons x l=>
  simp only [popP,Option.toList_some,List.singleton_append,List.mem_cons] at h
  rcases h with rfl | h
  ·simp
  ·have h:=zto less _ _ m h
   have h:=List.mem_of_mem_take h
   rcases List.mem_or_eq_of_mem_set h with h | h
   ·exact h
   ·rw [h];exact List.getElem_mem _
end Go.Proofs.YtfmcngncaffloaaGreatDoor
