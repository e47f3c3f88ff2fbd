import Derived.Test.YtfmcngncaffloaaGreatDoorG03Keep
import Derived.RegionTactic
import Derived.Maps.RangeRun
import Derived.RangeFuncGives
import Derived.Deep.Slices
import Derived.Deep.Strs
import Derived.SizedLaws
import Derived.Test.YtfmcngncaffloaaGreatDoorRows
import Derived.OpenShut
import Derived.Stop.LaidTwo
set_option maxHeartbeats 800000
namespace Go.Proofs.YtfmcngncaffloaaGreatDoor
open Go.RowKit
set_option maxRecDepth 100000
def eq3(a1 a2 a3 b1 b2 b3:Int):Bool:=(a1==b1) && (a2==b2) && (a3==b3)
theorem za9(a1 a2 a3 b1 b2 b3:Int)(w:World):
  (binOp .eql 146 (.agg #[I a1,I a2,I a3]) (.agg #[I b1,I b2,I b3])).run Tryz.prog w= .ok (.bool (eq3 a1 a2 a3 b1 b2 b3)) w:=by
 go_simp
 unfold eq3
 by_cases h1:a1=b1<;>by_cases h2:a2=b2<;>by_cases h3:a3=b3<;>simp [h1,h2,h3]
theorem zbo(a1 a2 a3 b1 b2 b3:Int)(w:World):
  (binOp .neq 146 (.agg #[I a1,I a2,I a3]) (.agg #[I b1,I b2,I b3])).run Tryz.prog w= .ok (.bool (!eq3 a1 a2 a3 b1 b2 b3)) w:=by
 go_simp
 unfold eq3
 by_cases h1:a1=b1<;>by_cases h2:a2=b2<;>by_cases h3:a3=b3<;>simp [h1,h2,h3]
abbrev Lv:=List (Wv.Dt×Int)
def Stm(es:Array MapEntry)(clock:Nat):Prop:=(∀x∈es.toList,x.born<clock)∧(es.toList.map (·.born)).Nodup
def MpAt(w:World)(b:Nat)(m:Lv):Prop:=∃es clock,w.heap[b]?=some (.map es clock)∧es.toList.map (fun e=>(e.key,e.val))=m.map (fun x=>(dotV x.1,I x.2))∧Stm es clock
theorem Stm.none:Stm #[] 0:=⟨fun x hx=>by simp at hx,by simp⟩
theorem Stm.push{es:Array MapEntry}{clock:Nat}(h:Stm es clock)(k v:Value):Stm (es.push ⟨k,v,clock⟩) (clock+1):=by
 refine⟨fun x hx=> ?_, ?_⟩
 ·rw [Array.toList_push,List.mem_append] at hx
  rcases hx with hx | hx
  ·have:=h.1 x hx
   omega
  ·simp only [List.mem_singleton] at hx
   subst hx
   show clock<clock+1
   omega
 ·rw [Array.toList_push,List.map_append,List.nodup_append]
  refine⟨h.2,by simp,fun a ha c hc=> ?_⟩
  obtain⟨x,hx,rfl⟩:=List.mem_map.1 ha
  simp only [List.map_cons,List.map_nil,List.mem_singleton] at hc
  have:=h.1 x hx
  omega
theorem Stm.erase{es:Array MapEntry}{clock:Nat}(h:Stm es clock)(j:Nat):Stm (es.eraseIdxIfInBounds j) clock:=by
 have hs:((es.eraseIdxIfInBounds j).toList).Sublist es.toList:=by
  rw [Array.toList_eraseIdxIfInBounds]
  exact List.eraseIdx_sublist _ _
 exact⟨fun x hx=>h.1 x (hs.subset hx),(hs.map _).nodup h.2⟩
theorem Stm.modify{es:Array MapEntry}{clock:Nat}(h:Stm es clock)(j:Nat)(f:MapEntry->MapEntry)(hf:∀x,(f x).born=x.born):Stm (es.modify j f) clock:=by
 have hb:(es.modify j f).toList.map (·.born)=es.toList.map (·.born):=by
  apply List.ext_getElem?
  intro k
  simp only [List.getElem?_map,Array.getElem?_toList,Array.getElem?_modify]
  by_cases hjk:j=k
  ·rw [if_pos hjk]
   cases es[k]? with
   | none=>rfl
   | some x=>simp [hf]
  ·rw [if_neg hjk]
 refine⟨fun x hx=> ?_,by rw [hb];exact h.2⟩
 have hm:x.born∈(es.modify j f).toList.map (·.born):=List.mem_map.2 ⟨x,hx,rfl⟩
 rw [hb] at hm
 obtain⟨y,hy,hyx⟩:=List.mem_map.1 hm
 rw [←hyx]
 exact h.1 y hy
def eqD(d e:Wv.Dt):Bool:=eq3 d.o d.s d.i e.o e.s e.i
theorem zbe(d e:Wv.Dt):eqD d e=true↔d=e:=by
 unfold eqD eq3
 cases d;cases e
 simp [and_assoc]
def idxD(d:Wv.Dt)(m:Lv):Option Nat:=m.findIdx? (fun x=>eqD d x.1)
def putD(m:Lv)(d:Wv.Dt)(v:Int):Lv:=match idxD d m with | some i=>m.set i (d,v) | none=>m++ [(d,v)]
def delD(m:Lv)(d:Wv.Dt):Lv:=match idxD d m with | some i=>m.eraseIdx i | none=>m
def getD(m:Lv)(d:Wv.Dt):Int:=match idxD d m with | some i=>((m[i]?).map (·.2)).getD 0 | none=>0
theorem zjt(d e:Wv.Dt)(w:World):(Op.equal 146 (dotV d) (dotV e)).run Tryz.prog w= .ok (eqD d e) w:=by
 unfold eqD
 show(Op.equalIn (9999+1) 146 (.agg #[I d.o,I d.s,I d.i]) (.agg #[I e.o,I e.s,I e.i])).run Tryz.prog w=_
 go_simp
 unfold eq3
 by_cases h1:d.o=e.o<;>by_cases h2:d.s=e.s<;>by_cases h3:d.i=e.i<;>simp [h1,h2,h3]
theorem zdi(d:Wv.Dt)(w:World):∀(es:List MapEntry) (m:Lv) (i:Nat),es.map (fun e=>(e.key,e.val))=m.map (fun x=>(dotV x.1,I x.2))->
  (Instr.findAsking 146 (dotV d) es i).run Tryz.prog w= .ok ((idxD d m).map (fun j=>(i+j,I (((m[j]?).map (·.2)).getD 0)))) w
 | [], [],i,_=>by simp [Instr.findAsking,idxD]
 | [],_::_,_,h=>by simp at h
 | _::_, [],_,h=>by simp at h
 | e::es,x::m,i,h=>by
  simp only [List.map_cons,List.cons.injEq,Prod.mk.injEq] at h
  obtain⟨⟨h1,h2⟩,h3⟩:=h
  unfold Instr.findAsking
  rw [h1,Sem.run_bind,zjt]
  simp only [Result.andThen_ok]
  by_cases hq:eqD d x.1=true
  ·rw [if_pos hq]
   simp [idxD,List.findIdx?_cons,hq,h2]
  ·have hq':eqD d x.1=false:=by simpa using hq
   rw [if_neg hq,zdi d w es m (i+1) h3]
   simp only [idxD,List.findIdx?_cons,hq']
   cases hf:m.findIdx? (fun x=>eqD d x.1) with
   | none=>simp
   | some j=>simp;omega
theorem zc8(d:Wv.Dt)(w:World)(es:List MapEntry)(m:Lv)(h:es.map (fun e=>(e.key,e.val))=m.map (fun x=>(dotV x.1,I x.2))):
  (Instr.findKey 146 (dotV d) es).run Tryz.prog w= .ok ((idxD d m).map (fun j=>(j,I (((m[j]?).map (·.2)).getD 0)))) w:=by
 have hf:=zdi d w es m 0 h
 unfold Instr.findKey
 rw [Sem.run_bind,run_underlying Tryz.underlying146]
 simp only [Result.andThen_ok]
 cases es with
 | nil=>
  cases m with
  | nil=>simp [Instr.findNow,idxD]
  | cons x m=>simp at h
 | cons e es=>
  simp only [Instr.findNow,Instr.sameNow]
  rw [hf]
  simp
theorem zcv(d:Wv.Dt)(b:Bool)(w:World):(Instr.checkKey b 10000 146 (dotV d)).run Tryz.prog w= .ok () w:=by
 show(Instr.checkKey b (9999+1) 146 (.agg #[I d.o,I d.s,I d.i])).run Tryz.prog w=_
 rw [Instr.checkKey,Sem.run_bind,run_underlying Tryz.underlying146]
 have hc:∀x w,(Instr.checkKey b 9999 3 (I x)).run Tryz.prog w= .ok () w:=fun x w=>by
  show(Instr.checkKey b (9998+1) 3 (.int .i64 x)).run Tryz.prog w=_
  rw [Instr.checkKey,Sem.run_bind,run_underlying Tryz.underlying3]
  simp
 simp only [Result.andThen_ok,List.forIn_toArray,List.forIn_cons,List.forIn_nil]
 go_simp
theorem MpAt.lt{w:World}{b:Nat}{m:Lv}(h:MpAt w b m):b<w.heap.size:=by
 obtain⟨es,clock,hb,_⟩:=h
 exact(Array.getElem?_eq_some_iff.1 hb).1
theorem MpAt.same{w w':World}{b:Nat}{m:Lv}(h:MpAt w b m)(hb:w'.heap[b]?=w.heap[b]?):MpAt w' b m:=by
 obtain⟨es,clock,h1,h2⟩:=h
 exact⟨es,clock,hb.trans h1,h2⟩
theorem MpAt.new(w:World):MpAt (w.alloc (.map #[] 0)) w.heap.size []:=⟨#[],0,(MapKept.heap_alloc w _).1,rfl,Stm.none⟩
theorem zl2{es:Array MapEntry}{m:Lv}(h:es.toList.map (fun e=>(e.key,e.val))=m.map (fun x=>(dotV x.1,I x.2))):es.size=m.length:=by
 have:=congrArg List.length h
 simpa using this
theorem ze9(d:Wv.Dt)(w:World)(b:Nat)(m:Lv)(h:MpAt w b m):(Instr.lookup 185 (.map (some b)) (dotV d) false).run Tryz.prog w= .ok (I (getD m d)) w:=by
 obtain⟨es,clock,hb,he,hst0⟩:=h
 have hz:(zeroValue 3).run Tryz.prog w= .ok (.int .i64 0) w:=Tryz.zeroValue3 w
 unfold Instr.lookup
 simp only [Sem.run_bind,run_underlying Tryz.underlying185,Result.andThen_ok,MapKept.run_getObj_map hb,Sem.run_pure,zcv,zc8 d w es.toList m he]
 unfold getD
 cases idxD d m with
 | none=>simp [hz]
 | some j=>simp
theorem zln(d:Wv.Dt):Instr.sameBits 10000 (dotV d) (dotV d)=true:=by
 show Instr.sameBits (9999+1) (.agg #[I d.o,I d.s,I d.i]) (.agg #[I d.o,I d.s,I d.i])=true
 simp [Instr.sameBits]
theorem zky{d:Wv.Dt}{m:Lv}{j:Nat}(h:idxD d m=some j):∃hj:j<m.length,m[j].1=d:=by
 obtain⟨hj,h1,_⟩:=List.findIdx?_eq_some_iff_getElem.1 h
 exact⟨hj,((zbe _ _).1 h1).symm⟩
def setM(w:World)(b:Nat)(o:Obj):World:={w with heap:=w.heap.setIfInBounds b o}
theorem zdh(w:World)(b:Nat)(o:Obj):w.grownBy (setM w b o) (some b):=
 ⟨rfl,rfl,rfl,by simp [setM],fun k _ hk=>by
  show(w.heap.setIfInBounds b o)[k]?=_
  rw [Array.getElem?_setIfInBounds_ne (fun e=>hk (by rw [e]))]⟩
theorem zgd{w:World}{b:Nat}(hb:b<w.heap.size)(o:Obj):(setM w b o).heap[b]?=some o:=by simp [setM,hb]
theorem ze8(d:Wv.Dt)(v:Int)(w:World)(b:Nat)(m:Lv)(h:MpAt w b m):∃w',(Instr.mapUpdate 185 (.map (some b)) (dotV d) (I v)).run Tryz.prog w= .ok () w'∧MpAt w' b (putD m d v)∧w.grownBy w' (some b):=by
 have hlt:=h.lt
 obtain⟨es,clock,hb,he,hst0⟩:=h
 have hset:∀o:Obj,(setObj b o).run Tryz.prog w= .ok () (setM w b o):=fun o=>MapKept.run_setObj_map o hb
 unfold Instr.mapUpdate
 simp only [Sem.run_bind,run_underlying Tryz.underlying185,Result.andThen_ok,MapKept.run_getObj_map hb,zcv,zc8 d w es.toList m he]
 unfold putD
 cases hq:idxD d m with
 | none=>
  simp only [Option.map_none,hset]
  refine⟨_,rfl,⟨_,_,zgd hlt _, ?_,hst0.push _ _⟩,zdh w b _⟩
  rw [Array.toList_push,List.map_append,he,List.map_append]
  rfl
 | some j=>
  obtain⟨hj,hd⟩:=zky hq
  have hsz:=zl2 he
  have hje:j<es.size:=by omega
  have hk:es[j].key=dotV d:=by
   have h1:(es.toList.map (fun e=>(e.key,e.val)))[j]?=some (es[j].key,es[j].val):=by simp [hje]
   rw [he] at h1
   simp only [List.getElem?_map,List.getElem?_eq_getElem hj,Option.map_some,Option.some.injEq,Prod.mk.injEq] at h1
   rw [←h1.1,hd]
  have hst:(Instr.keyThatStays ((Option.map (fun x=>x.key) es[j]?).getD (dotV d)) (dotV d)).run Tryz.prog w= .ok (dotV d) w:=by
   rw [Array.getElem?_eq_getElem hje]
   simp only [Option.map_some,Option.getD_some,hk]
   unfold Instr.keyThatStays
   rw [if_pos (zln d)]
   rfl
  simp only [Option.map_some,Sem.run_bind,hst,Result.andThen_ok,hset]
  refine⟨_,rfl,⟨_,_,zgd hlt _, ?_,hst0.modify _ _ (fun _=>rfl)⟩,zdh w b _⟩
  apply List.ext_getElem?
  intro k
  have hek:(es.toList.map (fun e=>(e.key,e.val)))[k]?=(m.map (fun x=>(dotV x.1,I x.2)))[k]?:=by rw [he]
  simp only [List.getElem?_map,Array.getElem?_toList] at hek
  simp only [List.getElem?_map,Array.getElem?_toList,Array.getElem?_modify,List.getElem?_set]
  by_cases hjk:j=k
  ·subst hjk
   simp [hj,hje]
  ·rw [if_neg hjk,if_neg hjk]
   exact hek
theorem zgx{α β:Type}(f:α->β):∀(l:List α) (j:Nat),(l.eraseIdx j).map f=(l.map f).eraseIdx j
 | [],_=>by simp
 | _::_,0=>by simp
 | a::r,j+1=>by simp [zgx f r j]
theorem zih(d:Wv.Dt)(w:World)(b:Nat)(ty t2:TypeId)(m:Lv)(h:MpAt w b m):∃w',(Builtin.delete_ #[185,t2] ty #[.map (some b),dotV d]).run Tryz.prog w= .ok (.tuple #[]) w'∧MpAt w' b (delD m d)∧w.grownBy w' (some b):=by
 have hlt:=h.lt
 obtain⟨es,clock,hb,he,hst0⟩:=h
 have hset:∀o:Obj,(setObj b o).run Tryz.prog w= .ok () (setM w b o):=fun o=>MapKept.run_setObj_map o hb
 have hsz:=zl2 he
 unfold Builtin.delete_
 simp only [List.getElem?_toArray,List.getElem?_cons_zero,List.getElem?_cons_succ,Sem.run_bind,run_underlying Tryz.underlying185,Result.andThen_ok,MapKept.run_getObj_map hb,zcv,zc8 d w es.toList m he]
 unfold delD
 cases hq:idxD d m with
 | none=>
  simp only [Option.map_none,Sem.run_bind,hset,Result.andThen_ok,Sem.run_pure]
  exact⟨_,rfl,⟨_,_,zgd hlt _,he,hst0⟩,zdh w b _⟩
 | some j=>
  obtain⟨hj,hd⟩:=zky hq
  simp only [Option.map_some,Sem.run_bind,hset,Result.andThen_ok,Sem.run_pure]
  refine⟨_,rfl,⟨_,_,zgd hlt _, ?_,hst0.erase _⟩,zdh w b _⟩
  rw [Array.toList_eraseIdxIfInBounds,zgx,zgx,he]
def ruleV(op:Int):Value:= .agg #[I (Wv.rKind op),I (Wv.rLeast op),I (Wv.rGreat op),I (Wv.rRef op),I (Wv.rLeastD op),I (Wv.rMostD op)]
theorem zki(op:Int)(w:World)(eb ef:Addr)(g:Gl w eb ef)(h:¬(1<=op∧op<=6)):
  Calls Tryz.prog 67 #[I op] w fun e w'=>(∃s,e= .returned (.tuple #[.agg #[I 0,I 0,I 0,I 0,I 0,I 0],Flt s (Sent eb)]))∧Below w.heap.size w w':=by
 have h':(!(decide (1<=op) && decide (op<=6)))=true:=by simp;omega
 have hE:=g.errBatch
 have hz:=zag hE
 clear g h
 go_enter Tryz.func67,Tryz.ntmps67
 go_wp2_with (go_at_call 115;refine(zai _ _ _ _).mono ?_;rintro e w' ⟨rfl,h⟩;subst h)
 go_region
 go_wp2
 refine bodyPost_ret (v:= .tuple #[.agg #[I 0,I 0,I 0,I 0,I 0,I 0],Flt _ (Sent eb)]) (by simp [results,Tryz.results67,go_sem];rfl) rfl ⟨⟨_,rfl⟩, ?_⟩
 exact((Below.refl _ _).alloc (Nat.le_refl _) _).drew
theorem zvx(w:World)(eb ef:Addr)(g:Gl w eb ef):
  Calls Tryz.prog 67 #[I 1] w fun e w'=>e= .returned (.tuple #[ruleV 1, .nilIface])∧Below w.heap.size w w':=by
 have c0:w.cell? ⟨1,6,none⟩=some (I 0):=g.rules 6 (by decide)
 have c1:w.cell? ⟨1,7,none⟩=some (I (-1000)):=g.rules 7 (by decide)
 have c2:w.cell? ⟨1,8,none⟩=some (I 1000):=g.rules 8 (by decide)
 have c3:w.cell? ⟨1,9,none⟩=some (I 0):=g.rules 9 (by decide)
 have c4:w.cell? ⟨1,10,none⟩=some (I 0):=g.rules 10 (by decide)
 have c5:w.cell? ⟨1,11,none⟩=some (I 0):=g.rules 11 (by decide)
 have hz:=zag c0
 clear g
 go_enter Tryz.func67,Tryz.ntmps67
 go_wp2_with (go_at_call 115;refine(zai _ _ _ _).mono ?_;rintro e w' ⟨rfl,h⟩;subst h)
 refine bodyPost_ret (v:= .tuple #[ruleV 1, .nilIface]) (by simp [results,Tryz.results67,go_sem,ruleV,Wv.rKind,Wv.rLeast,Wv.rGreat,Wv.rRef,Wv.rLeastD,Wv.rMostD]) rfl ⟨rfl, ?_⟩
 exact((Below.refl _ _).alloc (Nat.le_refl _) _)
theorem zvw(w:World)(eb ef:Addr)(g:Gl w eb ef):
  Calls Tryz.prog 67 #[I 2] w fun e w'=>e= .returned (.tuple #[ruleV 2, .nilIface])∧Below w.heap.size w w':=by
 have c0:w.cell? ⟨1,12,none⟩=some (I 1):=g.rules 12 (by decide)
 have c1:w.cell? ⟨1,13,none⟩=some (I 0):=g.rules 13 (by decide)
 have c2:w.cell? ⟨1,14,none⟩=some (I 255):=g.rules 14 (by decide)
 have c3:w.cell? ⟨1,15,none⟩=some (I 0):=g.rules 15 (by decide)
 have c4:w.cell? ⟨1,16,none⟩=some (I 0):=g.rules 16 (by decide)
 have c5:w.cell? ⟨1,17,none⟩=some (I 0):=g.rules 17 (by decide)
 have hz:=zag c0
 clear g
 go_enter Tryz.func67,Tryz.ntmps67
 go_wp2_with (go_at_call 115;refine(zai _ _ _ _).mono ?_;rintro e w' ⟨rfl,h⟩;subst h)
 refine bodyPost_ret (v:= .tuple #[ruleV 2, .nilIface]) (by simp [results,Tryz.results67,go_sem,ruleV,Wv.rKind,Wv.rLeast,Wv.rGreat,Wv.rRef,Wv.rLeastD,Wv.rMostD]) rfl ⟨rfl, ?_⟩
 exact((Below.refl _ _).alloc (Nat.le_refl _) _)
theorem zvv(w:World)(eb ef:Addr)(g:Gl w eb ef):
  Calls Tryz.prog 67 #[I 3] w fun e w'=>e= .returned (.tuple #[ruleV 3, .nilIface])∧Below w.heap.size w w':=by
 have c0:w.cell? ⟨1,18,none⟩=some (I 1):=g.rules 18 (by decide)
 have c1:w.cell? ⟨1,19,none⟩=some (I 0):=g.rules 19 (by decide)
 have c2:w.cell? ⟨1,20,none⟩=some (I 0):=g.rules 20 (by decide)
 have c3:w.cell? ⟨1,21,none⟩=some (I 0):=g.rules 21 (by decide)
 have c4:w.cell? ⟨1,22,none⟩=some (I 1):=g.rules 22 (by decide)
 have c5:w.cell? ⟨1,23,none⟩=some (I 150):=g.rules 23 (by decide)
 have hz:=zag c0
 clear g
 go_enter Tryz.func67,Tryz.ntmps67
 go_wp2_with (go_at_call 115;refine(zai _ _ _ _).mono ?_;rintro e w' ⟨rfl,h⟩;subst h)
 refine bodyPost_ret (v:= .tuple #[ruleV 3, .nilIface]) (by simp [results,Tryz.results67,go_sem,ruleV,Wv.rKind,Wv.rLeast,Wv.rGreat,Wv.rRef,Wv.rLeastD,Wv.rMostD]) rfl ⟨rfl, ?_⟩
 exact((Below.refl _ _).alloc (Nat.le_refl _) _)
theorem zvu(w:World)(eb ef:Addr)(g:Gl w eb ef):
  Calls Tryz.prog 67 #[I 4] w fun e w'=>e= .returned (.tuple #[ruleV 4, .nilIface])∧Below w.heap.size w w':=by
 have c0:w.cell? ⟨1,24,none⟩=some (I 2):=g.rules 24 (by decide)
 have c1:w.cell? ⟨1,25,none⟩=some (I 0):=g.rules 25 (by decide)
 have c2:w.cell? ⟨1,26,none⟩=some (I 255):=g.rules 26 (by decide)
 have c3:w.cell? ⟨1,27,none⟩=some (I 0):=g.rules 27 (by decide)
 have c4:w.cell? ⟨1,28,none⟩=some (I 0):=g.rules 28 (by decide)
 have c5:w.cell? ⟨1,29,none⟩=some (I 150):=g.rules 29 (by decide)
 have hz:=zag c0
 clear g
 go_enter Tryz.func67,Tryz.ntmps67
 go_wp2_with (go_at_call 115;refine(zai _ _ _ _).mono ?_;rintro e w' ⟨rfl,h⟩;subst h)
 refine bodyPost_ret (v:= .tuple #[ruleV 4, .nilIface]) (by simp [results,Tryz.results67,go_sem,ruleV,Wv.rKind,Wv.rLeast,Wv.rGreat,Wv.rRef,Wv.rLeastD,Wv.rMostD]) rfl ⟨rfl, ?_⟩
 exact((Below.refl _ _).alloc (Nat.le_refl _) _)
theorem zvt(w:World)(eb ef:Addr)(g:Gl w eb ef):
  Calls Tryz.prog 67 #[I 5] w fun e w'=>e= .returned (.tuple #[ruleV 5, .nilIface])∧Below w.heap.size w w':=by
 have c0:w.cell? ⟨1,30,none⟩=some (I 3):=g.rules 30 (by decide)
 have c1:w.cell? ⟨1,31,none⟩=some (I 0):=g.rules 31 (by decide)
 have c2:w.cell? ⟨1,32,none⟩=some (I 255):=g.rules 32 (by decide)
 have c3:w.cell? ⟨1,33,none⟩=some (I 1):=g.rules 33 (by decide)
 have c4:w.cell? ⟨1,34,none⟩=some (I 0):=g.rules 34 (by decide)
 have c5:w.cell? ⟨1,35,none⟩=some (I 0):=g.rules 35 (by decide)
 have hz:=zag c0
 clear g
 go_enter Tryz.func67,Tryz.ntmps67
 go_wp2_with (go_at_call 115;refine(zai _ _ _ _).mono ?_;rintro e w' ⟨rfl,h⟩;subst h)
 refine bodyPost_ret (v:= .tuple #[ruleV 5, .nilIface]) (by simp [results,Tryz.results67,go_sem,ruleV,Wv.rKind,Wv.rLeast,Wv.rGreat,Wv.rRef,Wv.rLeastD,Wv.rMostD]) rfl ⟨rfl, ?_⟩
 exact((Below.refl _ _).alloc (Nat.le_refl _) _)
theorem zvs(w:World)(eb ef:Addr)(g:Gl w eb ef):
  Calls Tryz.prog 67 #[I 6] w fun e w'=>e= .returned (.tuple #[ruleV 6, .nilIface])∧Below w.heap.size w w':=by
 have c0:w.cell? ⟨1,36,none⟩=some (I 3):=g.rules 36 (by decide)
 have c1:w.cell? ⟨1,37,none⟩=some (I 0):=g.rules 37 (by decide)
 have c2:w.cell? ⟨1,38,none⟩=some (I 0):=g.rules 38 (by decide)
 have c3:w.cell? ⟨1,39,none⟩=some (I 2):=g.rules 39 (by decide)
 have c4:w.cell? ⟨1,40,none⟩=some (I 0):=g.rules 40 (by decide)
 have c5:w.cell? ⟨1,41,none⟩=some (I 0):=g.rules 41 (by decide)
 have hz:=zag c0
 clear g
 go_enter Tryz.func67,Tryz.ntmps67
 go_wp2_with (go_at_call 115;refine(zai _ _ _ _).mono ?_;rintro e w' ⟨rfl,h⟩;subst h)
 refine bodyPost_ret (v:= .tuple #[ruleV 6, .nilIface]) (by simp [results,Tryz.results67,go_sem,ruleV,Wv.rKind,Wv.rLeast,Wv.rGreat,Wv.rRef,Wv.rLeastD,Wv.rMostD]) rfl ⟨rfl, ?_⟩
 exact((Below.refl _ _).alloc (Nat.le_refl _) _)
theorem zbq(op:Int)(w:World)(eb ef:Addr)(g:Gl w eb ef)(h:1<=op∧op<=6):
  Calls Tryz.prog 67 #[I op] w fun e w'=>e= .returned (.tuple #[ruleV op, .nilIface])∧Below w.heap.size w w':=by
 obtain rfl | rfl | rfl | rfl | rfl | rfl:op=1∨op=2∨op=3∨op=4∨op=5∨op=6:=by omega
 ·exact zvx w eb ef g
 ·exact zvw w eb ef g
 ·exact zvv w eb ef g
 ·exact zvu w eb ef g
 ·exact zvt w eb ef g
 ·exact zvs w eb ef g
def OwnB(w:World)(B:Nat)(v:Value)(l:List UInt8):Prop:=w.ownsRow B 5 1 v l.length (l.map B8)
theorem OwnB.nil(w:World)(B:Nat):OwnB w B (.slice none 0 0) []:=World.ownsRow_nil w B _ 1
theorem zfh:(Tryz.prog.info? 5).map (fun i=>(i.zero,i.size,i.bytes))=some (some (.int .u8 0),1,1):=by kernel_rfl
theorem zdt(l:List UInt8):∀u∈l.map B8,u.oneCell'=true:=by
 intro u hu
 obtain⟨_,_,rfl⟩:=List.mem_map.1 hu
 rfl
theorem OwnB.append{w:World}{B:Nat}{v':Value}{l news:List UInt8}{n:Nat}(hn:n=news.length)(h:w.ownsRow B 5 1 v' (l.length+n) (l.map B8++news.map B8)):OwnB w B v' (l++news):=by
 subst hn
 unfold OwnB
 rw [List.length_append,List.map_append]
 exact h
theorem zde(w:World)(cs:Array Value)(l:List UInt8)(hcs:cs=(l.map B8).toArray):∀j u,(l.map B8)[j]?=some u->(w.alloc (.cells cs 5)).cell? ((⟨w.heap.size,0,none⟩:Addr).add j)=some u:=by
 intro j u hu
 rw [Addr.add_lit,Nat.zero_add,World.cell?_alloc_mark,hcs]
 simpa using hu
structure Grew(w w':World)(v v':Value):Prop where
 grown:w.grownBy w' v.ownBlock
 own:v'.ownBlock=v.ownBlock∨∃k,v'.ownBlock=some k∧w.heap.size<=k
theorem Grew.trans{w w1 w2:World}{v v1 v2:Value}(h:Grew w w1 v v1)(k:Grew w1 w2 v1 v2):Grew w w2 v v2:=by
 have hs:=h.grown.size
 refine⟨⟨k.grown.os.trans h.grown.os,k.grown.tape.trans h.grown.tape,k.grown.output.trans h.grown.output,Nat.le_trans hs k.grown.size,fun j hj hne=> ?_⟩, ?_⟩
 ·rw [k.grown.block j (by omega) ?_,h.grown.block j hj hne]
  rcases h.own with e | ⟨q,e,hq⟩
  ·rw [e];exact hne
  ·rw [e];intro x;cases x;omega
 ·rcases k.own with e | ⟨q,e,hq⟩
  ·rw [e]
   exact h.own
  ·exact Or.inr ⟨q,e,by omega⟩
theorem Grew.of_below{w w':World}(h:Below w.heap.size w w')(v:Value):Grew w w' v v:=⟨⟨h.os,h.tape,h.output,h.size,fun k hk _=>h.block k hk⟩,Or.inl rfl⟩
theorem OwnB.kept{w w':World}{B:Nat}{v:Value}{l:List UInt8}(h:OwnB w B v l)(hb:Below w.heap.size w w'):OwnB w' B v l:=by
 refine World.ownsRow.kept (row:=none) h ⟨hb.os,hb.tape,hb.output,hb.size,fun k hk _=>hb.block k hk⟩ ?_
 cases v.ownBlock<;>simp
theorem Grew.below{w w':World}{v v':Value}{B:Nat}{l:List UInt8}(h:Grew w w' v v')(hB:B<=w.heap.size)(ho:OwnB w B v l):Below B w w':=
 (Below.refl B w).grown h.grown hB (fun k hk=>(ho.lt k hk).1)
theorem Grew.cell{w w':World}{v v':Value}(h:Grew w w' v v'){b o:Nat}{u:Value}(hne:some b ≠ v.ownBlock)(hc:w.cell? ⟨b,o,none⟩=some u):w'.cell? ⟨b,o,none⟩=some u:=
 h.grown.cell hc hne
theorem OwnB.new_ne{w:World}{B:Nat}{v:Value}{l:List UInt8}(h:OwnB w B v l){b:Nat}(hb:w.heap.size<=b):some b ≠ v.ownBlock:=by
 intro e
 have:=(h.lt b e.symm).2
 omega
theorem Grew.app{w w':World}{v v':Value}(hg:w.grownBy w' v.ownBlock)(hat:v'.ownBlock=v.ownBlock∨v'.ownBlock=some w.heap.size):Grew w w' v v':=
 ⟨hg,hat.imp id fun e=>⟨_,e,Nat.le_refl _⟩⟩
theorem Grew.new{w:World}(o:Obj)(v:Value):Grew w (w.alloc o) v v:=Grew.of_below ((Below.refl _ _).alloc (Nat.le_refl _) _) v
theorem zgc(v:Value)(l:List UInt8)(n:Int)(B:Nat)(w:World)(hB:B<=w.heap.size)(ho:OwnB w B v l)(hl:l.length<=1048576):
  Calls Tryz.prog 159 #[v,I n] w fun e w'=>∃v',e= .returned v'∧OwnB w' B v' (l++Wv.be2 n)∧Grew w w' v v':=by
 obtain⟨i,hi,hz0,hz1,hz2⟩:=info_parts zfh
 have HO:Hid (OwnB w B v l):=ho
 have HC:Hid (#[Value.int .u8 (n / 256 % 256),Value.int .u8 (n % 256)]=((Wv.be2 n).map B8).toArray):=by
  show #[Value.int .u8 (n / 256 % 256),Value.int .u8 (n % 256)]=_
  simp only [Wv.be2,B8,List.map,Wv.ofNat_toNat]
 clear ho
 go_enter Tryz.func159,Tryz.ntmps159
 go_wp2_with (first | (at_builtin;go_must (refine wpList_append_own_at _ rfl _ _ _ rfl B 5 i (.int .u8 0) 1 1 Tryz.underlying170 hi hz0 hz1 hz2 rfl (by omega) v l.length (l.map B8) rfl (HO.out.alloc _) ⟨w.heap.size,0,none⟩ 2 2 ((Wv.be2 n).map B8) rfl rfl (zde w _ _ HC.out) (zdt _) (by unfold maxLen;omega) (by omega) (by simp;omega) ?_;intro v' w' hown hgrow hnil hat)))
 go_ret
 exact⟨_,rfl,OwnB.append rfl hown,(Grew.new _ v).trans (Grew.app hgrow hat)⟩
def unI:Value->Int
 | .int _ x=>x
 | _=>0
def unD:Value->Wv.Dt
 | .agg a=>⟨unI (a[0]?.getD undef),unI (a[1]?.getD undef),unI (a[2]?.getD undef)⟩
 | _=>⟨0,0,0⟩
def unE(e:MapEntry):Wv.Dt×Int:=(unD e.key,unI e.val)
theorem zyj(d:Wv.Dt):unD (dotV d)=d:=rfl
theorem zy3{es:List MapEntry}{m:Lv}(h:es.map (fun e=>(e.key,e.val))=m.map (fun x=>(dotV x.1,I x.2))):es.map unE=m:=by
 have h1:=congrArg (List.map (fun p:Value×Value=>(unD p.1,unI p.2))) h
 rw [List.map_map,List.map_map] at h1
 have h2:es.map unE=m.map (fun x=>(unD (dotV x.1),unI (I x.2))):=h1
 rw [h2]
 simp [zyj,unI]
theorem ent_of{es:List MapEntry}{m:Lv}(h:es.map (fun e=>(e.key,e.val))=m.map (fun x=>(dotV x.1,I x.2))){e:MapEntry}(he:e∈es):e.key=dotV (unE e).1∧e.val=I (unE e).2:=by
 have h1:(e.key,e.val)∈es.map (fun e=>(e.key,e.val)):=List.mem_map.2 ⟨e,he,rfl⟩
 rw [h] at h1
 obtain⟨x,_,hx⟩:=List.mem_map.1 h1
 obtain⟨h2,h3⟩:=Prod.mk.inj hx
 unfold unE
 rw [←h2,←h3]
 exact⟨rfl,rfl⟩
theorem zm4{e:MapEntry}:∀{L:List MapEntry},(L.map (·.born)).Nodup->e∈L->L.Perm (e::L.filter (fun x=> !(x.born==e.born)))
 | [],_,h=>by simp at h
 | a::L,hn,he=>by
  simp only [List.map_cons,List.nodup_cons] at hn
  rcases List.mem_cons.1 he with rfl | he'
  ·have hf:L.filter (fun x=> !(x.born==e.born))=L:=List.filter_eq_self.2 (fun x hx=>by
    have:x.born ≠ e.born:=fun h=>hn.1 (h ▸ List.mem_map.2 ⟨x,hx,rfl⟩)
    simp [this])
   simp [hf]
  ·have hne:a.born ≠ e.born:=fun h=>hn.1 (h ▸ List.mem_map.2 ⟨e,he',rfl⟩)
   have hf:(a::L).filter (fun x=> !(x.born==e.born))=a::L.filter (fun x=> !(x.born==e.born)):=by simp [hne]
   rw [hf]
   exact((zm4 hn.2 he').cons a).trans (List.Perm.swap e a _)
theorem zgy(es:Array MapEntry)(seen:Array Nat):(leftOf es seen).toList=es.toList.filter (fun e=> !seen.contains e.born):=by
 unfold leftOf
 rw [←Array.toList_filter]
theorem ztx{es:Array MapEntry}{seen:Array Nat}{e:MapEntry}(hn:(es.toList.map (·.born)).Nodup)(he:e∈(leftOf es seen).toList):(leftOf es seen).toList.Perm (e::(leftOf es (seen.push e.born)).toList):=by
 have h1:(leftOf es (seen.push e.born)).toList=(leftOf es seen).toList.filter (fun x=> !(x.born==e.born)):=by
  rw [zgy,zgy,List.filter_filter]
  congr 1
  funext x
  rw [contains_push]
  cases seen.contains x.born<;>cases (x.born==e.born)<;>rfl
 rw [h1]
 refine zm4 ?_ he
 rw [zgy]
 exact(List.Sublist.map _ List.filter_sublist).nodup hn
def RgAt(w:World)(b r:Nat)(m ss:Lv)(left:Nat):Prop:=
 ∃es clock since seen c0,w.heap[b]?=some (.map es clock)∧es.toList.map (fun e=>(e.key,e.val))=m.map (fun x=>(dotV x.1,I x.2))∧Stm es clock∧w.heap[r]?=some (.mapIter (some b) since seen c0)∧(∀x∈es.toList,x.born<since)∧since<=c0∧since<=clock∧
  (leftOf es seen).size=left∧(ss++(leftOf es seen).toList.map unE).Perm m
theorem RgAt.count{w:World}{b r:Nat}{m ss:Lv}{left:Nat}(h:RgAt w b r m ss left):ss.length+left=m.length:=by
 obtain⟨es,clock,since,seen,c0,_,_,_,_,_,_,_,hl,hp⟩:=h
 have:=hp.length_eq
 simp only [List.length_append,List.length_map,Array.length_toList] at this
 omega
theorem RgAt.same{w w':World}{b r:Nat}{m ss:Lv}{left:Nat}(h:RgAt w b r m ss left)(hk:KeepsWalks w w'):RgAt w' b r m ss left:=by
 obtain⟨es,clock,since,seen,c0,hb,he,hs,hr,rest⟩:=h
 exact⟨es,clock,since,seen,c0,hk.same b _ hb rfl,he,hs,hk.same r _ hr rfl,rest⟩
theorem RgAt.iter{w:World}{b r:Nat}{m ss:Lv}{left:Nat}(h:RgAt w b r m ss left):∃o:Obj,w.heap[r]?=some o∧o.isWalk=true:=by
 obtain⟨es,clock,since,seen,c0,hb,he,hs,hr,rest⟩:=h
 exact⟨_,hr,rfl⟩
theorem zjs(w:World)(b:Nat)(m:Lv)(h:MpAt w b m):
  ∃w',(Instr.range 185 (.map (some b))).run Tryz.prog w= .ok (.pointer (some ⟨w.heap.size,0,none⟩)) w'∧RgAt w' b w.heap.size m [] m.length∧w.grownBy w' none∧w'.heap.size=w.heap.size+1:=by
 have hlt:=h.lt
 obtain⟨es,clock,hb,he,hs⟩:=h
 have hl:(leftOf es #[])=es:=by
  unfold leftOf
  exact Array.filter_eq_self.2 (fun x _=>by simp)
 refine⟨_,run_range_map w 185 _ _ b es clock Tryz.underlying185 hb,⟨es,clock,clock, #[],clock,((MapKept.heap_alloc w _).2 b hlt).trans hb,he,hs,(MapKept.heap_alloc w _).1,hs.1,Nat.le_refl _,Nat.le_refl _, ?_, ?_⟩,World.grownBy_alloc w _ none,by simp⟩
 ·rw [hl,zl2 he]
 ·rw [hl,List.nil_append,zy3 he]
theorem zlp(w:World)(ty:TypeId)(b r:Nat)(m ss:Lv)(left:Nat)(h:RgAt w b r m ss left):
  (ss.Perm m∧(Instr.next (.pointer (some ⟨r,0,none⟩)) false ty).run Tryz.prog w= .ok (.tuple #[.bool false]) w)∨
  ∃d v w' left',(Instr.next (.pointer (some ⟨r,0,none⟩)) false ty).run Tryz.prog w= .ok (.tuple #[.bool true,dotV d,I v]) w'∧RgAt w' b r m (ss++ [(d,v)]) left'∧left'<left∧w.grownBy w' (some r)∧w'.heap.size=w.heap.size∧(Instr.entry (.pointer (some ⟨r,0,none⟩))).run Tryz.prog w'= .ok (.tuple #[dotV d,I v]) w':=by
 obtain⟨es,clock,since,seen,c0,hb,he,hs,hr,hold,hsc,hsk,hl,hp⟩:=h
 have hne:r ≠ b:=by
  intro e
  rw [e,hb] at hr
  cases hr
 rcases run_next_at (P:=Tryz.prog) w ty r b since c0 seen es clock hr hb hold hsc with⟨h0,hrun⟩ | ⟨e,hem,w1,hal,hrun⟩
 ·refine Or.inl ⟨?_,hrun⟩
  have:(leftOf es seen).toList= []:=by
   have h1:(leftOf es seen)= #[]:=Array.eq_empty_of_size_eq_zero h0
   rw [h1]
  rw [this] at hp
  simpa using hp
 ·obtain⟨hes,hns⟩:=mem_left hem
  obtain⟨hk,hv⟩:=ent_of he hes
  have hr1:w1.heap[r]?=some (.mapIter (some b) since seen c0):=by rcases hal with rfl | rfl<;>exact hr
  have hb1:w1.heap[b]?=some (.map es clock):=by rcases hal with rfl | rfl<;>exact hb
  have hset:=MapKept.heap_set (o':= .mapIter (some b) since (seen.push e.born) clock) hr1
  have hb':(ChangeMaps.setBlock w1 r (.mapIter (some b) since (seen.push e.born) clock)).heap[b]?=some (.map es clock):=(hset.2 b (fun e1=>hne e1.symm)).trans hb1
  rw [hk,hv] at hrun
  refine Or.inr ⟨(unE e).1,(unE e).2,_,_,hrun,⟨es,clock,since,seen.push e.born,clock,hb',he,hs,hset.1,hold,hsk,hsk,rfl, ?_⟩,hl ▸ left_shrinks es seen e hem, ?_, ?_, ?_⟩
  ·have h1:=(ztx hs.2 hem).map unE
   refine List.Perm.trans ?_ hp
   rw [List.append_assoc]
   exact List.Perm.append_left ss h1.symm
  ·rcases hal with rfl | rfl<;>exact⟨rfl,rfl,rfl,by simp [ChangeMaps.setBlock],fun i _ hi=>hset.2 i (fun e1=>hi (by rw [e1]))⟩
  ·rcases hal with rfl | rfl<;>simp [ChangeMaps.setBlock]
  ·have h2:=run_entry_at (P:=Tryz.prog) _ r b since seen es clock e hset.1 hb' hes hs.2
   rw [hk,hv] at h2
   exact h2
variable {H : Type} {enc : TypeId × Value -> H} {W : World} {base : Nat} {spare : Nat -> Bool} {held : Bool}
theorem zdr:Tryz.prog.cellsOf 3=1:=by kernel_rfl
theorem uInt:Tryz.prog.underlying 3=some (.int .i64):=by kernel_rfl
theorem zjz{w:World}{a:Addr}{v:Value}(h:w.cell? a=some v):a=⟨a.block,a.off,none⟩:=by
 obtain⟨b,o,s⟩:=a
 cases s with
 | none=>rfl
 | some s=>
  unfold World.cell? at h
  split at h<;>simp at h
theorem pick{α:Type}(R:Nat->α->Prop):∀n,(∀i,i<n->∃x,R i x)->∃xs:List α,xs.length=n∧∀i (hi:i<xs.length),R i xs[i]
 | 0,_=>⟨[],rfl,fun i hi=>absurd hi (by simp)⟩
 | n+1,h=>by
  obtain⟨xs,hl,hx⟩:=pick R n fun i hi=>h i (by omega)
  obtain⟨x,hr⟩:=h n (by omega)
  refine⟨xs++ [x],by simp [hl],fun i hi=> ?_⟩
  rcases Nat.lt_or_ge i xs.length with h1 | h1
  ·rw [List.getElem_append_left h1];exact hx i h1
  ·have:i=xs.length:=by simp at hi;omega
   subst this
   rw [List.getElem_append_right (Nat.le_refl _)]
   simpa [hl] using hr
theorem zzj{α:Type}(f:α->List Value)(k:Nat)(hk:0<k)(hf:∀x,(f x).length=k){w:World}{base:Nat}{a:Addr}{xs:List α}(h:∀i (hi:i<xs.length),w.cells? base (a.add (i*k)) k=some (f xs[i])):At w (some a) (flat f xs):=by
 intro j u hj
 have hjl:j<xs.length*k:=by rw [←zaq f k hf xs];exact(List.getElem?_eq_some_iff.1 hj).1
 have hi:j / k<xs.length:=Nat.div_lt_of_lt_mul (by rw [Nat.mul_comm];exact hjl)
 have hr:j % k<k:=Nat.mod_lt _ hk
 have hpos:0<xs.length:=Nat.lt_of_le_of_lt (Nat.zero_le _) hi
 have h0:=(World.cells?_some (h 0 hpos)).2.2 0 hk
 rw [Nat.zero_mul,show(a.add 0).add 0=a by simp [Addr.add],List.getElem?_eq_getElem (by rw [hf];exact hk)] at h0
 have hp:=zjz h0
 have hc:=(World.cells?_some (h (j / k) hi)).2.2 (j % k) hr
 rw [←zak f k hf xs (j / k) hi (j % k) hr,show j / k*k+j % k=j by rw [Nat.mul_comm];exact Nat.div_add_mod j k,hj] at hc
 refine⟨a.block,a.off,by rw [←hp], ?_⟩
 rw [hp] at hc
 rw [Addr.add_lit,Addr.add_lit,Nat.add_assoc,show j / k*k+j % k=j by rw [Nat.mul_comm];exact Nat.div_add_mod j k] at hc
 exact hc
def lits{H:Type}(l:List Int):DataW H:= .agg (l.map fun z=> .lit (.int .i64 z))
theorem uInt':Tryz.prog.underlying 3=some (.int .i64):=by kernel_rfl
theorem zfv:Tryz.prog.cellsOf 3=1:=by kernel_rfl
theorem uKind:Tryz.prog.underlying 134=some (.int .i64):=by kernel_rfl
theorem zu1:Tryz.prog.cellsOf 134=1:=by kernel_rfl
theorem uFit:Tryz.prog.underlying 138=some (.int .i64):=by kernel_rfl
theorem zx7:Tryz.prog.cellsOf 138=1:=by kernel_rfl
theorem zld:Tryz.prog.cellsOf 140=6:=by kernel_rfl
theorem zvg{H:Type}{enc:TypeId×Value->H}{W:World}{base:Nat}{spare:Nat->Bool}{held:Bool}{fuel:Nat}{cs:List Value}{x:DataW H×List MemPlace}(h:DataW.trod enc Tryz.prog W base spare held fuel 140 cs=some x):
  ∃zs:List Int,zs.length=6∧cs=zs.map I∧x.1=lits zs:=by
 obtain⟨xs,n,_,hx,hl,hlen,hf⟩:=DataW.trod_struct Tryz.underlying140 h
 rw [zld] at hl
 match xs,hlen with
 | [y0,y1,y2,y3,y4,y5],_=>
  match cs,hl with
  | [c0,c1,c2,c3,c4,c5],_=>
   have h0:DataW.trod enc Tryz.prog W base spare held n 134 [c0]=some y0:=by have:=hf 0 _ rfl;simpa [zu1] using this
   have h1:DataW.trod enc Tryz.prog W base spare held n 3 [c1]=some y1:=by have:=hf 1 _ rfl;simpa [zfv] using this
   have h2:DataW.trod enc Tryz.prog W base spare held n 3 [c2]=some y2:=by have:=hf 2 _ rfl;simpa [zfv] using this
   have h3:DataW.trod enc Tryz.prog W base spare held n 138 [c3]=some y3:=by have:=hf 3 _ rfl;simpa [zx7] using this
   have h4:DataW.trod enc Tryz.prog W base spare held n 3 [c4]=some y4:=by have:=hf 4 _ rfl;simpa [zfv] using this
   have h5:DataW.trod enc Tryz.prog W base spare held n 3 [c5]=some y5:=by have:=hf 5 _ rfl;simpa [zfv] using this
   obtain⟨z0,e0,d0,_⟩:=DataW.trod_int uKind h0
   obtain⟨z1,e1,d1,_⟩:=DataW.trod_int uInt' h1
   obtain⟨z2,e2,d2,_⟩:=DataW.trod_int uInt' h2
   obtain⟨z3,e3,d3,_⟩:=DataW.trod_int uFit h3
   obtain⟨z4,e4,d4,_⟩:=DataW.trod_int uInt' h4
   obtain⟨z5,e5,d5,_⟩:=DataW.trod_int uInt' h5
   simp at e0 e1 e2 e3 e4 e5
   exact⟨[z0,z1,z2,z3,z4,z5],rfl,by simp [e0,e1,e2,e3,e4,e5],by rw [hx];simp [lits,d0,d1,d2,d3,d4,d5]⟩
theorem zw3{H:Type}{a b:List Int}(h:(lits a:DataW H)=lits b):a=b:=by
 simp only [lits,DataW.agg.injEq] at h
 exact List.map_inj_right (fun x y e=>by simpa using e) |>.1 h
theorem zs1:(Rows.laid_weave_batch_rules:DataW Unit)= .agg ((List.range 7).map fun i=>lits ((Wv.tab.drop (i*6)).take 6)):=by kernel_rfl
theorem zsi{enc:TypeId×Value->Unit}{W:World}{base:Nat}{spare:Nat->Bool}{held:Bool}{fuel:Nat}{cs:List Value}{p:List MemPlace}(h:DataW.trod enc Tryz.prog W base spare held fuel 203 cs=some (Rows.laid_weave_batch_rules,p)):
  ∀j,j<42->cs[j]?=some (I (Wv.tab.getD j 0)):=by
 obtain⟨xs,m,_,hx,hl,hlen,hf⟩:=DataW.trod_array Tryz.underlying203 h
 rw [zld] at hf
 have hxs:xs.map (·.1)=(List.range 7).map fun i=>lits ((Wv.tab.drop (i*6)).take 6):=by
  have:=congrArg Prod.fst hx
  rw [zs1] at this
  simpa using this.symm
 intro j hj
 have hi:j / 6<7:=by omega
 have hr:j % 6<6:=Nat.mod_lt _ (by omega)
 have h1:=hf (j / 6) hi
 rw [List.getElem?_eq_getElem (by omega)] at h1
 obtain⟨zs,hz,e1,e2⟩:=zvg h1
 have e3:(xs[j / 6]'(by omega)).1=lits ((Wv.tab.drop (j / 6*6)).take 6):=by
  have:=congrArg (fun l=>l[j / 6]?) hxs
  simpa [hi,hlen] using this
 have e4:=zw3 (e2.symm.trans e3)
 have e5:((cs.drop (j / 6*6)).take 6)[j % 6]?=cs[j]?:=by
  rw [List.getElem?_take_of_lt hr,List.getElem?_drop,show j / 6*6+j % 6=j by omega]
 rw [←e5,e1,e4,List.getElem?_map,List.getElem?_take_of_lt hr,List.getElem?_drop,show j / 6*6+j % 6=j by omega]
 have ht:j<Wv.tab.length:=hj
 simp [List.getD,ht]
end Go.Proofs.YtfmcngncaffloaaGreatDoor
